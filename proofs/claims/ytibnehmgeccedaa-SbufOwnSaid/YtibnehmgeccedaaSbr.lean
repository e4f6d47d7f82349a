/- What the document's own buffer answers, and leaves: walked. No condition. -/
import Derived.Test.YtibnehmgeccedaaSbb
namespace Go.Proofs.Ytibnehmgeccedaa
open Go.RowKit
set_option linter.unusedVariables false
set_option maxHeartbeats 1000000

theorem wideRSe : Wide Try.prog 38 5 := ⟨⟨_, Try.underlying38, by rfl⟩, by kernel_rfl⟩
theorem loadRSe (x : Value) : Instr.loadAt 38 x = loadS 38 5 x := rfl
theorem storeRSe (x y : Value) : Instr.storeAt 38 x y = storeS 38 5 x y := rfl
theorem wideFnd : Wide Try.prog 48 2 := ⟨⟨_, Try.underlying48, by rfl⟩, by kernel_rfl⟩
theorem loadFnd (x : Value) : Instr.loadAt 48 x = loadS 48 2 x := rfl
theorem storeFnd (x y : Value) : Instr.storeAt 48 x y = storeS 48 2 x y := rfl
attribute [local go_sem ↓] append_appS copy_copS clear_clrS make_mkS cell_row frozen_row loadSe storeSe loadBuf storeBuf heap_drew heap_drewN heap_alloc heap_past heap_setCell heap_putRow sec_kd sec_li sec_wo sec_va sec_sn bfc_room bfc_first bfc_count
attribute [local go_sem] rowCell_some rowFrozen_some rowHas_some rowIn_some rowPart_full rowPart_lit rowPut_full rowPut_lit rowSet_some size_putRow wideSe wideBuf run_loadS run_storeS run_appS run_copS run_clrS run_mkS loadW_at storeW_at fit_all fit_le fit_pl one_int one_bool one_pointer one_slice allOne_list putRow_new ne_size1 ne_size2 ne_size3 ne_size4 sec_size sec_one sec_lit sec_z sec_ne sec_set0 sec_set1 sec_set2 sec_set3 sec_set4 seZ_kd seZ_li seZ_wo seZ_va seZ_sn fold_sec bfc_size bfc_one bfc_setFirst bfc_setCount bfc_in bfc_has bfc_part bfc_put bfc_sent
attribute [local simp ↓] heap_drew heap_drewN heap_alloc heap_past heap_setCell heap_putRow
attribute [local simp] rowCell_some rowFrozen_some rowHas_some rowIn_some rowPart_full rowPart_lit rowPut_full rowPut_lit rowSet_some size_putRow fit_all fit_pl putRow_new ne_size1 ne_size2 ne_size3 ne_size4 sec_size bfc_size bfc_setFirst bfc_setCount bfc_has bfc_put bfc_sent
attribute [local go_sem ↓] zbuf
attribute [local go_sem] bfc_setRoom bfc_ne
attribute [local go_sem ↓] loadRSe storeRSe loadFnd storeFnd
attribute [local go_sem] wideRSe wideFnd
theorem rse_info : (Try.prog.info? 38).map (fun i => (i.zero, i.size, i.bytes)) = some (some sezV, 5, 40) := by kernel_rfl
theorem eltRSe : Elt Try.prog 42 38 5 40 sezV Se.enc where
  slice := Try.underlying42
  info := rse_info
  zero := sezV_size
  zone := sezV_one
  pos := by omega
  len := Se.len
  one := Se.one
/-- The document's buffer at p. -/
def RBuf (w : World) (p bp room : Nat) (es : List Se) : Prop :=
  (∃ A cap, w.heap[p]? = some (.cells #[.int .i64 room, .slice A es.length cap] 44 (0, 0)) ∧ Vec 5 38 Se.enc w p bp A cap es) ∧ es.length ≤ room ∧ 1 ≤ room ∧ room ≤ 16
theorem RBuf.keep {w w' : World} {p bp room : Nat} {es : List Se} {l : List Nat} (h : RBuf w p bp room es) (hc : Chg l w w') (hq : p ∉ l) (hb : bp ∉ l) : RBuf w' p bp room es := by
  obtain ⟨⟨A, cap, h1, h2⟩, h3⟩ := h
  exact ⟨⟨A, cap, hc.keep h1 hq, h2.keep hc hb⟩, h3⟩
theorem RBuf.oldp {w : World} {p bp room : Nat} {es : List Se} (h : RBuf w p bp room es) : Old w p := by
  obtain ⟨⟨A, cap, h1, h2⟩, h3⟩ := h
  exact old h1
theorem RBuf.oldb {w : World} {p bp room : Nat} {es : List Se} (h : RBuf w p bp room es) : Old w bp := by
  obtain ⟨⟨A, cap, h1, h2⟩, h3⟩ := h
  exact h2.old (old h1)
def RBufTo (w : World) (p bp room : Nat) (es : List Se) (v : Value) (e : Ending) (w' : World) : Prop :=
  e = .returned v ∧ ∃ bp', (bp' = bp ∨ w.heap.size ≤ bp') ∧ Chg [p] w w' ∧ RBuf w' p bp' room es
theorem rbnew_bad (room : Int) (w : World) (h : within12 room 1 16 = false) : Calls Try.prog 9 #[.int .i64 room] w fun e w' => e = .returned (.tuple #[.pointer none, .int .i64 1]) ∧ w = w' := by
  by_cases h1 : room < 1
  · have t1 : decide (room < 1) = true := by simpa using h1
    clear h h1
    go_enter Try.func9, Try.ntmps9
    go_wp2
    go_ret2
    exact ⟨rfl, rfl⟩
  · have t1 : decide (room < 1) = false := by simpa using h1
    have t2 : decide (16 < room) = true := by
      simp [within12] at h ⊢; omega
    clear h h1
    go_enter Try.func9, Try.ntmps9
    go_wp2
    go_ret2
    exact ⟨rfl, rfl⟩
theorem rbnew_ok (room : Nat) (w : World) (h1 : 1 ≤ room) (h2 : room ≤ 16) : Calls Try.prog 9 #[.int .i64 room] w fun e w' => ∃ p, e = .returned (.tuple #[.pointer (some ⟨p, 0, none⟩), .int .i64 0]) ∧ w.heap.size ≤ p ∧ Chg [] w w' ∧ RBuf w' p p room [] := by
  have t1 : decide ((room : Int) < 1) = false := by simp; omega
  have t2 : decide ((16 : Int) < room) = false := by simp; omega
  go_enter Try.func9, Try.ntmps9
  go_wp2
  go_ret2
  exact ⟨w.heap.size, rfl, Nat.le_refl _, (Chg.refl _ _).alloc _, ⟨none, 0, by simp, Vec.nil _ _ _ _ _⟩, by simp, h1, h2⟩
theorem rbgood_any (e : Se) (w : World) : Calls Try.prog 28 #[.agg (sec e)] w fun v w' => v = .returned (.bool (rgoodSe e)) ∧ Chg [] w w' := by
  by_cases h1 : e.li < 0
  · have t1 : decide (e.li < 0) = true := by simpa using h1
    rw [show rgoodSe e = false by simp [rgoodSe, h1]]
    clear h1
    go_enter Try.func28, Try.ntmps28
    go_wp2_with fail
    go_ret
    exact ⟨rfl, (Chg.refl _ _).alloc _⟩
  have t1 : decide (e.li < 0) = false := by simpa using h1
  by_cases h2 : 63 < e.li
  · have t2 : decide (63 < e.li) = true := by simpa using h2
    rw [show rgoodSe e = false by simp [rgoodSe, h2]]
    clear h1 h2
    go_enter Try.func28, Try.ntmps28
    go_wp2_with fail
    go_ret
    exact ⟨rfl, (Chg.refl _ _).alloc _⟩
  have t2 : decide (63 < e.li) = false := by simpa using h2
  by_cases h3 : e.wo < 0
  · have t3 : decide (e.wo < 0) = true := by simpa using h3
    rw [show rgoodSe e = false by simp [rgoodSe, h3]]
    clear h1 h2 h3
    go_enter Try.func28, Try.ntmps28
    go_wp2_with fail
    go_ret
    exact ⟨rfl, (Chg.refl _ _).alloc _⟩
  have t3 : decide (e.wo < 0) = false := by simpa using h3
  by_cases h4 : 7 < e.wo
  · have t4 : decide (7 < e.wo) = true := by simpa using h4
    rw [show rgoodSe e = false by simp [rgoodSe, h4]]
    clear h1 h2 h3 h4
    go_enter Try.func28, Try.ntmps28
    go_wp2_with fail
    go_ret
    exact ⟨rfl, (Chg.refl _ _).alloc _⟩
  have t4 : decide (7 < e.wo) = false := by simpa using h4
  cases h5 : e.sn
  case true =>
    rw [show rgoodSe e = false by simp [rgoodSe, h5]]
    clear h1 h2 h3 h4
    go_enter Try.func28, Try.ntmps28
    go_wp2_with fail
    go_ret
    exact ⟨rfl, (Chg.refl _ _).alloc _⟩
  by_cases k9 : e.kd = 9
  · rw [show rgoodSe e = true by simp [rgoodSe, h1, h2, h3, h4, h5, k9]]
    have t9 : (e.kd == 9) = true := by simp [k9]
    clear k9 h1 h2 h3 h4
    go_enter Try.func28, Try.ntmps28
    go_wp2_with fail
    go_ret
    exact ⟨rfl, (Chg.refl _ _).alloc _⟩
  have t9 : (e.kd == 9) = false := by simpa using k9
  by_cases k3 : e.kd = 12 ∨ e.kd = 13 ∨ e.kd = 14
  · rw [show rgoodSe e = (e.wo == 0 && e.va == 0) by
      rcases k3 with k | k | k <;> simp [rgoodSe, h1, h2, h3, h4, h5, k]]
    have hk3 : (e.kd == 12) = true ∨ (e.kd == 12) = false ∧ (e.kd == 13) = true ∨ (e.kd == 12) = false ∧ (e.kd == 13) = false ∧ (e.kd == 14) = true := by
      rcases k3 with k | k | k <;> simp [k]
    clear k3 k9 h1 h2 h3 h4
    rcases hk3 with t | ⟨t, u⟩ | ⟨t, u, v⟩
    all_goals
      cases h4 : (e.wo == 0)
      · go_enter Try.func28, Try.ntmps28
        go_wp2_with fail
        go_ret
        exact ⟨rfl, (Chg.refl _ _).alloc _⟩
      · go_enter Try.func28, Try.ntmps28
        go_wp2_with fail
        go_ret
        exact ⟨rfl, (Chg.refl _ _).alloc _⟩
  have ⟨t12, t13, t14⟩ : (e.kd == 12) = false ∧ (e.kd == 13) = false ∧ (e.kd == 14) = false := by simpa using k3
  rw [show rgoodSe e = false by simp [rgoodSe, t9, t12, t13, t14]]
  clear k3 k9 h1 h2 h3 h4
  go_enter Try.func28, Try.ntmps28
  go_wp2_with fail
  go_ret
  exact ⟨rfl, (Chg.refl _ _).alloc _⟩
/-! ### Copies -/
section
variable {α : Type} {enc : α → List Value} {k bytes : Nat} {P : Program} {t ty e : TypeId} {z : Value}
/-- 'append([]T{}, x...)', the empty row at eb. -/
theorem clone12 (E : Elt P t e k bytes z enc) {w0 w : World} {q eb : Nat} {A : Option Addr} {n c : Nat} {ys : List α} (h0 : Chg [] w0 w) (hq : Old w0 q) (hE : w.heap[eb]? = some (.cells #[] e (0, 0))) (he : w0.heap.size ≤ eb)
    (hs : Sl w k A n (cat enc ys)) (hm : ys.length = n) (hB : n * bytes ≤ 140737488355328) (h63 : n ≤ maxLen) :
    ∃ (be' cap' : Nat) (A' : Option Addr) (w' : World), appR P t ty #[.slice (some ⟨eb, 0, none⟩) 0 0, .slice A n c] w = .ok (.slice A' n cap') w' ∧ Vec k e enc w' q be' A' cap' ys ∧ w0.heap.size ≤ be' ∧ Chg [] w0 w' ∧ Chg [eb] w w' := by
  have hne : eb ≠ q := by have := hq.lt; omega
  have hv : Vec k e enc w q eb (some ⟨eb, 0, none⟩) 0 ([] : List α) := .inr ⟨hne, rfl, by simp, [], by rw [hE]; rfl, by simp⟩
  obtain ⟨be', cap', A', w', h1, h2, h3, h4, h5⟩ := hv.app (ty := ty) E (hq.chg h0) hs (c := c) hm (by simpa using hB) (by simpa using h63)
  simp only [List.length_nil, Nat.zero_add, List.nil_append] at h1 h2
  refine ⟨be', cap', A', w', h1, h2, ?_, h0.trans' h4 (by intro x hx; rw [List.mem_singleton] at hx; exact .inr (by omega)), h4⟩
  rcases h3 with h3 | h3
  · omega
  · have := h0.size; omega
/-- .. and one more behind it. -/
theorem snoc12 (E : Elt P t e k bytes z enc) {w0 w : World} {q be b : Nat} {A : Option Addr} {n cap : Nat} {ys : List α} {y : α} (h0 : Chg [] w0 w) (hq : Old w0 q) (hv : Vec k e enc w q be A cap ys) (hbe : w0.heap.size ≤ be)
    (hm : ys.length = n) (hy : w.heap[b]? = some (.cells (enc y).toArray e (0, 0))) (hB : (n + 1) * bytes ≤ 140737488355328) (h63 : n + 1 ≤ maxLen) :
    ∃ (be' cap' : Nat) (A' : Option Addr) (w' : World), appR P t ty #[.slice A n cap, .slice (some ⟨b, 0, none⟩) 1 1] w = .ok (.slice A' (n + 1) cap') w' ∧ Vec k e enc w' q be' A' cap' (ys ++ [y]) ∧ w0.heap.size ≤ be' ∧ Chg [] w0 w' := by
  subst hm
  have hs : Sl w k (some ⟨b, 0, none⟩) 1 (cat enc [y]) := ⟨by rw [cat_length E.len]; rfl, .inr ⟨b, 0, _, e, (0, 0), rfl, hy, by rw [cat_one]; simp [E.len, List.take_of_length_le]⟩⟩
  obtain ⟨be', cap', A', w', h1, h2, h3, h4, h5⟩ := hv.app (ty := ty) E (hq.chg h0) hs (c := 1) rfl hB h63
  refine ⟨be', cap', A', w', h1, h2, ?_, h0.trans' h4 (by intro x hx; rw [List.mem_singleton] at hx; exact .inr (by omega))⟩
  rcases h3 with h3 | h3
  · omega
  · have := h0.size; omega
end
theorem sec_row (e : Se) (T : TypeId) : (Obj.cells (sec e) T (0, 0)) = .cells (Se.enc e).toArray T (0, 0) := rfl
theorem rb_close {w w2 w4 : World} {p bp be room n0 c0 c n : Nat} {A0 A : Option Addr} {ys : List Se} {v : Value} (h2 : Chg [] w w2) (hq : w4.heap[p]? = some (.cells #[.int .i64 room, .slice A0 n0 c0] 44 (0, 0)))
    (hv : Vec 5 38 Se.enc w4 p be A c ys) (hn : w2.heap.size ≤ be) (hk : Chg [] w2 w4) (hy : ys.length = n) (hl : n ≤ room) (hr : 1 ≤ room ∧ room ≤ 16) :
    RBufTo w p bp room ys v (.returned v) (w4.setCell ⟨p, 1, none⟩ (.slice A n c)) := by
  subst hy
  have hc : Chg [p] w4 (w4.setCell ⟨p, 1, none⟩ (.slice A ys.length c)) := (Chg.refl [p] w4).setCell _ _ _ (.inl (by simp))
  have hs := h2.size
  refine ⟨rfl, be, .inr (by omega), ((h2.trans hk).mono (by simp)).trans hc, ⟨A, c, ?_, ?_⟩, hl, hr⟩
  · rw [heap_setCell, if_pos rfl, hq, rowSet_some]; rfl
  · rcases hv with ⟨h3, h4, h5, h6⟩ | hv'
    · exact .inl ⟨h3, h4, h5, h6⟩
    · exact Vec.keep (.inr hv') hc (by simpa using hv'.1)
theorem rbpush_ok {w : World} {p bp room : Nat} {es : List Se} (x : Se) (hb : RBuf w p bp room es) : Calls Try.prog 11 #[.pointer (some ⟨p, 0, none⟩), .agg (sec x)] w (RBufTo w p bp room (sbE room es x) (.int .i64 (sbV room es x))) := by
  have HB := Lib.hid hb
  have oq := hb.oldp
  have hl := hb.2
  have hx : (w.alloc (.cells (sec x) 38)).heap[w.heap.size]? = some (.cells (sec x) 38 (0, 0)) := by simp
  have HC := Lib.hid ((Chg.refl [] w).alloc (.cells (sec x) 38))
  have HN := Lib.hid (show w.heap.size ≠ p by have := oq.lt; omega)
  have hgr : rgoodSe x = goodSe x := rgood_good x
  clear hb
  cases hg : goodSe x
  · rw [show sbE room es x = es by simp [sbE, hg], show sbV room es x = 11 by simp [sbV, hg]]
    rw [hg] at hgr
    go_enter Try.func11, Try.ntmps11
    go_wp2_with fail
    refine (rbgood_any x _).mono ?_
    rintro e w1 ⟨rfl, c1⟩
    rw [hgr]
    go_wp2_with fail
    go_ret
    have := HC.out.trans c1
    exact ⟨rfl, bp, .inl rfl, this.mono (by simp), HB.out.keep this (by simp) (by simp)⟩
  rw [hg] at hgr
  by_cases hr : room ≤ es.length
  · rw [show sbE room es x = es by simp [sbE, hg, hr], show sbV room es x = 13 by simp [sbV, hg, hr]]
    have t3 : decide (room ≤ es.length) = true := by simpa using hr
    clear hr hl
    go_enter Try.func11, Try.ntmps11
    go_wp2_with fail
    refine (rbgood_any x _).mono ?_
    rintro e w1 ⟨rfl, c1⟩
    rw [hgr]
    have HC1 := Lib.hid (HC.out.trans c1)
    obtain ⟨⟨A, cap, hq, _⟩, _⟩ := HB.out.keep HC1.out (by simp) (by simp)
    clear c1
    go_wp2_with fail
    go_quiet (fail)
    go_wp2_with fail
    go_ret
    have := HC1.out.drewN nq
    exact ⟨rfl, bp, .inl rfl, this.mono (by simp), HB.out.keep this (by simp) (by simp)⟩
  · rw [show sbE room es x = es ++ [x] by simp [sbE, hg, hr], show sbV room es x = 0 by simp [sbV, hg, hr]]
    have t3 : decide (room ≤ es.length) = false := by simpa using hr
    have HR := Lib.hid (show es.length < room by omega)
    have HL := Lib.hid hl
    clear hr hl
    go_enter Try.func11, Try.ntmps11
    go_wp2_with fail
    refine (rbgood_any x _).mono ?_
    rintro e w1 ⟨rfl, c1⟩
    rw [hgr]
    have hx1 := c1.keep hx (by simp)
    have HC1 := Lib.hid (HC.out.trans c1)
    clear c1 hx
    generalize w.heap.size = b at hx1 HN ⊢
    obtain ⟨⟨A, cap, hq, hv⟩, _⟩ := HB.out.keep HC1.out (by simp) (by simp)
    have HV := Lib.hid hv
    clear hv
    go_wp2_with fail
    go_quiet (fail)
    go_wp2_with fail
    have c2 := (Chg.refl [] w1).drewN nq
    have hq2 := c2.keep hq (by simp)
    have hx2 := c2.keep hx1 (by simp)
    have HV2 := Lib.hid (HV.out.keep c2 (by simp))
    have HC2 := Lib.hid (HC1.out.trans c2)
    clear hq hx1 c2 HV
    generalize w1.drewN nq = w2 at hq2 hx2 HC2 HV2 ⊢
    have oq2 := old hq2
    have ox2 := old hx2
    have h16 : es.length ≤ 15 := by have := HR.out; have := HL.out; omega
    have HS := Lib.hid (HV2.out.sl Se.len)
    have cA := ((Chg.refl [] w2).alloc (.cells #[] 38)).drew
    have cC := ((Chg.refl [] w2).alloc (.cells (sec x) 38)).drew
    have cAC := (((Chg.refl [] w2).alloc (.cells #[] 38)).alloc (.cells (sec x) 38)).drew
    have cCA := (((Chg.refl [] w2).alloc (.cells (sec x) 38)).alloc (.cells #[] 38)).drew
    -- the empty row, the copy, the new one
    obtain ⟨b1, p1, A1, w3, e1, v1, n1, k1, k1'⟩ := clone12 (ty := 42) eltRSe (c := cap) cA oq2 (eb := w2.heap.size) (by simp) (Nat.le_refl _) (HS.out.chg cA (by simp)) rfl (by omega) (by unfold maxLen; omega)
    have k1a := k1.alloc (.cells (sec x) 38)
    obtain ⟨b2, p2, A2, w4, e2, v2, n2, k2⟩ := snoc12 (ty := 42) eltRSe (y := x) (b := w3.heap.size) k1a oq2 (v1.keep ((Chg.refl [] w3).alloc (.cells (sec x) 38)) (by simp)) n1 rfl (by simp [sec]) (by omega) (by unfold maxLen; omega)
    -- the empty row, the new one, the copy
    obtain ⟨b3, p3, A3, w5, e3, v3, n3, k3, k3'⟩ := clone12 (ty := 42) eltRSe (c := cap) cAC oq2 (eb := w2.heap.size) (by simp) (Nat.le_refl _) (HS.out.chg cAC (by simp)) rfl (by omega) (by unfold maxLen; omega)
    obtain ⟨b4, p4, A4, w6, e4, v4, n4, k4⟩ := snoc12 (ty := 42) eltRSe (y := x) (b := w2.heap.size + 1) k3 oq2 v3 n3 rfl (k3'.keep (by simp [sec]) (by simp)) (by omega) (by unfold maxLen; omega)
    -- the new one, the empty row, the copy
    obtain ⟨b5, p5, A5, w7, e5, v5, n5, k5, k5'⟩ := clone12 (ty := 42) eltRSe (c := cap) cCA oq2 (eb := w2.heap.size + 1) (by simp) (by omega) (HS.out.chg cCA (by simp)) rfl (by omega) (by unfold maxLen; omega)
    obtain ⟨b6, p6, A6, w8, e6, v6, n6, k6⟩ := snoc12 (ty := 42) eltRSe (y := x) (b := w2.heap.size) k5 oq2 v5 n5 rfl (k5'.keep (by simp [sec]) (by simp)) (by omega) (by unfold maxLen; omega)
    have hx3 := k1.keep hx2 (by simp)
    have ox3 := old hx3
    have hq4 := k2.keep hq2 (by simp)
    have hq6 := k4.keep hq2 (by simp)
    have hq8 := k6.keep hq2 (by simp)
    have K2 := Lib.hid (And.intro v2 (And.intro n2 k2))
    have K4 := Lib.hid (And.intro v4 (And.intro n4 k4))
    have K6 := Lib.hid (And.intro v6 (And.intro n6 k6))
    clear v1 n1 k1 k1' k1a v2 n2 k2 v3 n3 k3 k3' v4 n4 k4 v5 n5 k5 k5' v6 n6 k6 cA cC cAC cCA
    go_region
    all_goals
      have HQ4 := Lib.hid hq4
      have HQ6 := Lib.hid hq6
      have HQ8 := Lib.hid hq8
      clear hq4 hq6 hq8 hq2 hx2 hx3 e1 e2 e3 e4 e5 e6
      go_wp2_with fail
      go_ret
      first
        | exact rb_close HC2.out HQ4.out K2.out.1 K2.out.2.1 K2.out.2.2 (by simp) (by have := HR.out; simp; omega) HL.out.2
        | exact rb_close HC2.out HQ6.out K4.out.1 K4.out.2.1 K4.out.2.2 (by simp) (by have := HR.out; simp; omega) HL.out.2
        | exact rb_close HC2.out HQ8.out K6.out.1 K6.out.2.1 K6.out.2.2 (by simp) (by have := HR.out; simp; omega) HL.out.2
/-! ### The first entry, taken out -/
theorem rbpop_ok {w : World} {p bp room : Nat} {es : List Se} (hb : RBuf w p bp room es) : Calls Try.prog 15 #[.pointer (some ⟨p, 0, none⟩)] w (RBufTo w p bp room es.tail (.tuple #[])) := by
  have HB := Lib.hid hb
  have oq := hb.oldp
  obtain ⟨⟨A, cap, hq, hv⟩, hl⟩ := hb
  have HL := Lib.hid hl
  have HV := Lib.hid hv
  clear hl hv
  rcases es with _ | ⟨x, es⟩
  · go_enter Try.func15, Try.ntmps15
    go_wp2_with fail
    go_end0
    exact ⟨rfl, bp, .inl rfl, Chg.refl _ _, HB.out⟩
  · obtain ⟨hne, rfl, r, hbp, hlen⟩ := HV.out.there (by simp)
    have hle := HV.out.le
    have hs := HV.out.slFrom Se.len (i := 1) (by simp)
    have c1 := (Chg.refl [] w).alloc (.cells #[] 38)
    simp only [List.drop_succ_cons, List.drop_zero, List.length_cons, Nat.add_sub_cancel, Nat.one_mul] at hs hle hq
    have h16 : es.length ≤ 15 := by have := HL.out; simp at this; omega
    by_cases hc1 : cap = 1
    · subst hc1
      obtain rfl : es = [] := List.eq_nil_of_length_eq_zero (by omega)
      obtain ⟨b1, p1, A1, w3, e1, v1, n1, k1, k1'⟩ := clone12 (ty := 42) eltRSe (A := some ⟨bp, 0, none⟩) (n := 0) (ys := []) (c := 0) c1 oq (eb := w.heap.size) (by simp) (Nat.le_refl _) ⟨rfl, .inl rfl⟩ rfl (by omega) (by unfold maxLen; omega)
      have hq3 := k1.keep hq (by simp)
      have oq3 := old hq3
      have K1 := Lib.hid (And.intro v1 (And.intro n1 k1))
      have obp := old hbp
      clear v1 n1 k1 k1' c1 hs hbp hlen
      go_enter Try.func15, Try.ntmps15
      go_wp2_with fail
      go_end0
      exact rb_close (Chg.refl [] w) hq3 K1.out.1 K1.out.2.1 K1.out.2.2 rfl (by have := HL.out; omega) HL.out.2
    · obtain ⟨b1, p1, A1, w3, e1, v1, n1, k1, k1'⟩ := clone12 (ty := 42) eltRSe (c := cap - 1) c1 oq (eb := w.heap.size) (by simp) (Nat.le_refl _) (hs.chg c1 (by simp)) rfl (by omega) (by unfold maxLen; omega)
      have hq3 := k1.keep hq (by simp)
      have oq3 := old hq3
      have K1 := Lib.hid (And.intro v1 (And.intro n1 k1))
      have g1 : (es.length + 1 : Int) ≤ (cap : Int) := by omega
      have obp := old hbp
      clear v1 n1 k1 k1' c1 hs hbp hlen
      go_enter Try.func15, Try.ntmps15
      go_wp2_with fail
      go_end0
      exact rb_close (Chg.refl [] w) hq3 K1.out.1 K1.out.2.1 K1.out.2.2 rfl (by have := HL.out; simp at this; omega) HL.out.2
/-! ### A flush that is the first entry, sent -/
theorem se_at {es : List Se} {k : Nat} {e : Se} (h : es[k]? = some e) (r : List Value) (t : TypeId) (f : Nat × Nat) : rowIn (some (.cells (sq Se.enc es r) t f)) (k * 5) 5 = true ∧ rowPart (some (.cells (sq Se.enc es r) t f)) (k * 5) 5 = sec e := by
  have h1 := rowIn_sq Se.len (List.getElem?_eq_some_iff.1 h).1 r t f 0 5 (by omega)
  have h2 := rowPart_sq Se.len h r t f 0 5 (by omega)
  rw [Nat.add_zero] at h1 h2
  exact ⟨h1, by rw [h2, List.drop_zero, List.take_of_length_le (by rw [Se.len]; omega)]; rfl⟩
theorem rbsend_ok {w : World} {p bp room : Nat} {es : List Se} (hb : RBuf w p bp room es) : Calls Try.prog 19 #[.pointer (some ⟨p, 0, none⟩)] w (RBufTo w p bp room (sdE es) (.tuple #[])) := by
  have HB := Lib.hid hb
  have oq := hb.oldp
  obtain ⟨⟨A, cap, hq, hv⟩, hl⟩ := hb
  have HL := Lib.hid hl
  have HV := Lib.hid hv
  clear hl hv
  rcases es with _ | ⟨x, es⟩
  · go_enter Try.func19, Try.ntmps19
    go_wp2_with fail
    go_end0
    exact ⟨rfl, bp, .inl rfl, Chg.refl _ _, HB.out⟩
  · obtain ⟨hne, rfl, r, hbp, hlen⟩ := HV.out.there (by simp)
    have HS := Lib.hid (HV.out.sl Se.len)
    have c1 := (Chg.refl [] w).alloc (.cells #[] 38)
    have h16 : (x :: es).length ≤ 16 := by have := HL.out; omega
    have hx0 : (sq Se.enc (x :: es) r)[0]? = some (.int .i64 x.kd) := by
      have := sq_cell Se.len (xs := x :: es) (i := 0) (a := x) rfl r 0 (by omega)
      simpa [Se.enc] using this
    have obp := old hbp
    have hpos : (0 : Int) < ((x :: es).length : Int) := by rw [List.length_cons]; omega
    have hne0 : ((x :: es).length = 0) = False := by simp
    by_cases h14 : x.kd = 14
    · have HSD := Lib.hid (show sdE (x :: es) = sent x :: es by simp [sdE, h14])
      have t14 : (x.kd == 14) = true := by simp [h14]
      obtain ⟨b1, p1, A1, w3, e1, v1, n1, k1, k1'⟩ := clone12 (ty := 42) eltRSe (c := cap) c1 oq (eb := w.heap.size) (by simp) (Nat.le_refl _) (HS.out.chg c1 (by simp)) rfl (by omega) (by unfold maxLen; omega)
      obtain ⟨nb1, rfl, r1, hb1, hlen1⟩ := v1.there (by simp)
      have hq3 := k1.keep hq (by simp)
      have oq3 := old hq3
      have ob1 := old hb1
      have K1 := Lib.hid (And.intro v1 (And.intro n1 k1))
      have hx4 : (sq Se.enc (x :: es) r1)[4]? = some (.bool x.sn) := by
        have := sq_cell Se.len (xs := x :: es) (i := 0) (a := x) rfl r1 4 (by omega)
        simpa [Se.enc] using this
      have HB1 := Lib.hid hb1
      have HNB := Lib.hid nb1
      have HLEN := Lib.hid hlen1
      have nb2 : (b1 = p) = False := eq_false nb1
      have nb3 : (p = b1) = False := eq_false (Ne.symm nb1)
      have HM := Lib.hid (show (sent x :: es).length = (x :: es).length from rfl)
      clear v1 n1 k1 k1' c1 hlen hlen1 h14
      generalize hm : (x :: es).length = m at hq hq3 e1 h16 hpos hne0 HL
      have HMM := Lib.hid hm
      clear hm
      go_enter Try.func19, Try.ntmps19
      go_wp2_with fail
      go_end0
      have c5 : Chg [p] w3 (w3.setCell ⟨p, 1, none⟩ (.slice (some ⟨b1, 0, none⟩) m p1)) := (Chg.refl [p] w3).setCell _ _ _ (.inl (by simp))
      have hb5 := c5.keep HB1.out (by simpa using HNB.out)
      have hq5 : (w3.setCell ⟨p, 1, none⟩ (.slice (some ⟨b1, 0, none⟩) m p1)).heap[p]? = some (.cells #[.int .i64 room, .slice (some ⟨b1, 0, none⟩) m p1] 44 (0, 0)) := by
        rw [heap_setCell, if_pos rfl, hq3, rowSet_some]; rfl
      generalize w3.setCell ⟨p, 1, none⟩ (.slice (some ⟨b1, 0, none⟩) m p1) = w5 at c5 hb5 hq5 ⊢
      have c6 : Chg [b1] w5 (w5.setCell ⟨b1, 4, none⟩ (.bool true)) := (Chg.refl [b1] w5).setCell _ _ _ (.inl (by simp))
      have hl := K1.out.2.2.size
      have hn := K1.out.2.1
      refine ⟨rfl, b1, .inr hn, ((K1.out.2.2.mono (l' := [p]) (by simp)).trans c5).trans' c6 (by intro y hy; rw [List.mem_singleton] at hy; exact .inr (by omega)), ?_⟩
      rw [HSD.out]
      refine ⟨⟨some ⟨b1, 0, none⟩, p1, ?_, .inr ⟨HNB.out, rfl, ?_, r1, ?_, ?_⟩⟩, ?_⟩
      · rw [c6.keep hq5 (by simpa using Ne.symm HNB.out), HM.out, HMM.out]
      · have := K1.out.1.le; exact this
      · rw [heap_setCell, if_pos rfl, hb5, rowSet_some]
        congr 2
      · exact HLEN.out
      · rw [HM.out, HMM.out]; exact HL.out
    · have HSD := Lib.hid (show sdE (x :: es) = x :: es by simp [sdE, h14])
      have t14 : (x.kd == 14) = false := by simpa using h14
      clear h14 c1 hlen
      generalize (x :: es).length = m at hq h16 hpos hne0
      go_enter Try.func19, Try.ntmps19
      go_wp2_with fail
      go_end0
      exact ⟨rfl, bp, .inl rfl, Chg.refl _ _, by rw [HSD.out]; exact HB.out⟩

/-! ### The last store of a place -/
theorem results_fnd {fn : Func} {p : Tmp} (h : fn.results = #[.cell p 48]) (tmps : Array Value) (w : World) (b : Nat) (u v : Value) (fr : Nat × Nat)
    (hp : tmps.getD p undef = .pointer (some ⟨b, 0, none⟩)) (hb : w.heap[b]? = some (.cells #[u, v] 48 fr)) :
    (results fn tmps).run Try.prog w = .ok (.agg #[u, v]) w := by
  have hp' : tmps[p]?.getD undef = .pointer (some ⟨b, 0, none⟩) := by simpa using hp
  have := run_loadVar_row (P := Try.prog) w b 48 48 #[u, v] fr _ hb Try.underlying48 rfl (by kernel_rfl)
  simp [results, h, hp', asAddr, this]
theorem rbfind_ok {w : World} {p bp room : Nat} {es : List Se} (li wo : Int) (hb : RBuf w p bp room es) : Calls Try.prog 17 #[.pointer (some ⟨p, 0, none⟩), .int .i64 li, .int .i64 wo] w fun e w' => e = .returned (.agg #[.int .u64 (fdV es li wo), .bool (fdB es li wo)]) ∧ Chg [] w w' := by
  have HB := Lib.hid hb
  have hl16 : (es.length : Int) ≤ 16 := by have := hb.2; omega
  have oq := hb.oldp
  obtain ⟨⟨A, cap, hq, hv⟩, hl⟩ := hb
  have HV := Lib.hid hv
  have HQ := Lib.hid hq
  have hf : (w.alloc (.cells #[.int .u64 0, .bool false] 48)).heap[w.heap.size]? = some (.cells #[.int .u64 0, .bool false] 48 (0, 0)) := by simp
  have HC := Lib.hid ((Chg.refl [] w).alloc (.cells #[.int .u64 0, .bool false] 48))
  clear hl hv
  go_enter Try.func17, Try.ntmps17
  go_wp2_with fail
  generalize hb0 : w.heap.size = b at hf ⊢
  have HB0 := Lib.hid hb0
  clear hb0
  generalize w.alloc (.cells #[.int .u64 0, .bool false] 48) = w1 at hf HC ⊢
  have HF := Lib.hid hf
  clear hf
  go_loopw [7] (fun x wr => ∃ (k : Nat) (z : Int), k ≤ es.length ∧ z = (k : Int) - 1 ∧ x = .int .i64 z ∧ Chg [] w1 wr ∧ ∀ y ∈ es.drop k, isAt li wo y = false) (fun x _ => (intOf x + 1).toNat)
  case atStart => exact ⟨es.length, _, by omega, rfl, rfl, Chg.refl _ _, by simp⟩
  case round =>
    obtain ⟨k, z, hk, hz, rfl, hc, hno⟩ := hrel
    have HNO := Lib.hid hno
    have HCR := Lib.hid hc
    have hfr := hc.keep HF.out (by simp)
    have ofr := old hfr
    clear hno hc
    rcases k with _ | j
    · obtain rfl : z = -1 := by omega
      clear hz
      have hn : fdO es li wo = none := fdO_none (by simpa using HNO.out)
      have HH := Lib.hid hn
      clear hn
      go_wp2_with fail
      refine bodyPost_ret (results_fnd (by rfl) _ _ b (.int .u64 0) (.bool false) (0, 0) (by rfl) (by simp [hfr]; try rfl)) (by rfl) ?_
      have hn := HH.out
      exact ⟨by rw [show fdV es li wo = 0 by simp [fdV, hn], show fdB es li wo = false by simp [fdB, hn]], (HC.out.trans HCR.out).putRow _ _ _ (.inr (by have := HB0.out; omega))⟩
    · obtain rfl : z = (j : Int) := by omega
      clear hz
      obtain ⟨e, he⟩ : ∃ e, es[j]? = some e := ⟨es[j], List.getElem?_eq_getElem hk⟩
      have HE := Lib.hid he
      have g0 : (0 : Int) ≤ (j : Int) := by omega
      have g1 : (j : Int) < (es.length : Int) := by omega
      have HJ := Lib.hid hk
      obtain ⟨hne, rfl, r, hbp, hlen⟩ := HV.out.there (by omega)
      have hqr := (HC.out.trans HCR.out).keep HQ.out (by simp)
      have hbr := (HC.out.trans HCR.out).keep hbp (by simp)
      have oqr := old hqr
      have obr := old hbr
      obtain ⟨i1, i2⟩ := se_at he r 38 (0, 0)
      clear he hk hbp hlen
      cases hat : isAt li wo e
      · have HN2 := Lib.hid (drop_all12 HE.out hat HNO.out)
        have hp : (e.kd == 9) = false ∨ (e.kd == 9) = true ∧ (e.li == li) = false ∨ (e.kd == 9) = true ∧ (e.li == li) = true ∧ (e.wo == wo) = false := by
          unfold isAt at hat
          cases h1 : (e.kd == 9) <;> cases h2 : (e.li == li) <;> cases h3 : (e.wo == wo) <;> simp_all
        clear hat
        rcases hp with t | ⟨t, t1⟩ | ⟨t, t1, t2⟩
        all_goals
          go_wp2_with fail
          go_roundw
          case rel => exact ⟨j, _, by have := HJ.out; omega, rfl, rfl, HCR.out.alloc _, HN2.out⟩
          case measure => simp [intOf]
      · have hn : fdO es li wo = some e := fdO_some HE.out hat HNO.out
        have HH := Lib.hid hn
        obtain ⟨t, t1, t2⟩ : (e.kd == 9) = true ∧ (e.li == li) = true ∧ (e.wo == wo) = true := by simpa [isAt] using hat
        clear hn hat
        go_wp2_with fail
        refine bodyPost_ret (results_fnd (by rfl) _ _ b (.int .u64 e.va) (.bool true) (0, 0) (by rfl) (by simp [hfr]; try rfl)) (by rfl) ?_
        have hn := HH.out
        exact ⟨by rw [show fdV es li wo = e.va by simp [fdV, hn], show fdB es li wo = true by simp [fdB, hn]], ((HC.out.trans HCR.out).alloc _).putRow _ _ _ (.inr (by have := HB0.out; omega))⟩
end Go.Proofs.Ytibnehmgeccedaa
