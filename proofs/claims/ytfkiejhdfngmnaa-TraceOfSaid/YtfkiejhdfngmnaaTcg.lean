/- TraceWhole: walked. No condition. -/
import Derived.Test.YtfkiejhdfngmnaaTcf
import Derived.Test.YtfkiejhdfngmnaaChecked
import Derived.Laws.LoneSync
import Derived.Lib.SliceRun
import Derived.Deep.RegionHeld3
import Derived.Deep.RegionWith
import Derived.Laws.StructEq
import Derived.ChangeKeysEq
import Derived.BigQuiet
import Derived.BigRegion
import Derived.Deep.QuietTactic
import Derived.WalkKit
import Derived.Deep.Cut
import Derived.Deep.CutBlock
import Derived.Deep.CutRange
import Derived.Deep.DeepCutAuto
import Derived.Deep.RegionLaw
namespace Go.Proofs.Ytfkiejhdfngmnaa
open Go.RowKit
set_option linter.unusedVariables false
set_option maxHeartbeats 1000000

set_option maxRecDepth 100000
attribute [local go_sem ↓] append_appS copy_copS clear_clrS make_mkS cell_row frozen_row heap_drew heap_drewN heap_alloc heap_past heap_setCell heap_putRow loadEv storeEv evc_kd evc_co evc_li evc_wo evc_va
attribute [local go_sem] rowCell_some rowFrozen_some rowHas_some rowIn_some rowPart_full rowPart_lit rowPut_full rowPut_lit rowSet_some size_putRow run_loadS run_storeS run_appS run_copS run_clrS run_mkS loadW_at storeW_at fit_all fit_le one_int one_bool one_pointer one_slice allOne_list putRow_new ne_size1 ne_size2 ne_size3 ne_size4 wideEv evc_size evc_one evc_ne evc_lit evc_z evc_set0 evc_set1 evc_set2 evc_set3 evc_set4 evZ_kd evZ_co evZ_li evZ_wo evZ_va fold_evc
attribute [local simp ↓] heap_drew heap_drewN heap_alloc heap_past heap_setCell heap_putRow
attribute [local simp] rowCell_some rowFrozen_some rowHas_some rowIn_some rowPart_full rowPart_lit rowPut_full rowPut_lit rowSet_some size_putRow fit_all putRow_new ne_size1 ne_size2 ne_size3 ne_size4 evc_size fit_le
attribute [local go_sem ↓] ev_eqIn
/-! ### TraceWhole -/
theorem CutM.at {W w : World} {bo cp s : Nat} {fs : List Rf} {D : List (List Ev)} {P : List Ev} (h : CutM W w bo cp s fs D P) {i : Nat} {p : List Ev} (hp : (D ++ [P])[i]? = some p) :
    ∃ (r : List Value) (A : Option Addr) (c : Nat), w.heap[bo]? = some (.cells (sq re fs r) 22 (0, 0)) ∧ (sq re fs r)[i]? = some (.slice A p.length c) ∧ Sl w 5 A p.length (cat Ev.enc p) := by
  obtain ⟨r, h1, _⟩ := h.out
  by_cases hi : i < D.length
  · rw [List.getElem?_append_left hi] at hp
    obtain ⟨x, h2, h3, h4, _⟩ := h.parts i p hp
    have := sq_re_at (r := r) h2
    rw [h3] at this
    exact ⟨r, x.A, x.c, h1, this, h4⟩
  · have hi2 : i = D.length := by
      have := (List.getElem?_eq_some_iff.1 hp).1
      simp at this; omega
    subst hi2
    rw [List.getElem?_concat_length] at hp
    cases hp
    obtain ⟨bl, A, c, h2, h3, _⟩ := h.last
    exact ⟨r, A, c, h1, sq_re_at h2, h3.sl Ev.len⟩
theorem vec_empty {α : Type} {enc : α → List Value} {k : Nat} {e : TypeId} {w : World} {q eb : Nat} (hE : w.heap[eb]? = some (.cells #[] e (0, 0))) (hne : eb ≠ q) : Vec k e enc w q eb (some ⟨eb, 0, none⟩) 0 ([] : List α) :=
  .inr ⟨hne, rfl, by simp, [], by rw [hE]; rfl, by simp⟩
set_option maxHeartbeats 16000000 in
theorem tracewhole_any {A B : Option Addr} {n m cap cap' : Nat} (xs ys : List Ev) (co : Int) (w : World) (hs : Sl w 5 A n (cat Ev.enc xs)) (hl : xs.length = n) (hs' : Sl w 5 B m (cat Ev.enc ys)) (hl' : ys.length = m) :
    Calls Try.prog 3 #[.slice A n cap, .slice B m cap', .int .i64 co] w fun e w' => e = .returned (.bool true) ∧ Chg [] w w' := by
  have HS := Lib.hid hs
  have HL := Lib.hid hl
  have HS' := Lib.hid hs'
  have HL' := Lib.hid hl'
  clear hs hl hs' hl'
  by_cases h1 : 500 < n
  · have g1 : (500 : Int) < (n : Int) := by omega
    go_enter Try.func3, Try.ntmps3
    try dsimp only [List.append]
    go_wp2_with fail
    refine (wakes_any w).mono ?_
    rintro e w1 ⟨rfl, c1⟩
    go_wp2_with fail
    go_ret
    exact ⟨rfl, c1⟩
  have g1 : ¬ (500 : Int) < (n : Int) := by omega
  by_cases h2 : 500 < m
  · have g2 : (500 : Int) < (m : Int) := by omega
    go_enter Try.func3, Try.ntmps3
    try dsimp only [List.append]
    go_wp2_with fail
    refine (wakes_any w).mono ?_
    rintro e w1 ⟨rfl, c1⟩
    go_wp2_with fail
    go_ret
    exact ⟨rfl, c1⟩
  have g2 : ¬ (500 : Int) < (m : Int) := by omega
  have gN : (n : Int) ≤ 500 := by omega
  have gM : (m : Int) ≤ 500 := by omega
  have HN := Lib.hid (show n ≤ 500 by omega)
  have HM := Lib.hid (show m ≤ 500 by omega)
  have K1 := (Chg.refl [] w).alloc (.cells #[] 29)
  obtain ⟨A1, c1, w1, happ, hs1, cc1⟩ := clone_elts (ty := 22) eltEv (w.alloc (.cells #[] 29)) ⟨w.heap.size, 0, none⟩ A n cap xs (HS.out.chg K1 (by simp)) HL.out (by omega) (by unfold maxLen; omega)
  have C1 := Lib.hid (K1.trans cc1)
  have HS1 := Lib.hid hs1
  clear h1 h2 K1 cc1 hs1
  go_enter Try.func3, Try.ntmps3
  try dsimp only [List.append]
  go_wp2_with fail
  refine (cut_any (n := n) xs w1 HS1.out HL.out (by have := HN.out; omega)).mono ?_
  rintro e w2 ⟨bo, cp, s, fs, rfl, hm⟩
  have C2 := Lib.hid (C1.out.trans hm.chg)
  have HC2 := Lib.hid hm
  have hcl : cutL xs = (cutS xs).1 ++ [(cutS xs).2] := rfl
  have HCL := Lib.hid hcl
  have hnn := cutL_N xs
  have hcount := cutN_count xs
  rw [← hnn] at hcount
  have hle := cutN_len xs
  rw [← hnn, HL.out] at hle
  have HAT := Lib.hid (cutN_at xs)
  have HFA := Lib.hid (cutN_fails xs)
  have HEN := Lib.hid (cutN_end xs)
  rw [← hnn] at HAT HFA HEN
  have goc : ((ofE 11 (-1) xs).length : Int) ≤ 500 := by omega
  have goc0 : (0 : Int) ≤ ((ofE 11 (-1) xs).length : Int) := by omega
  have tcn : (((cutL xs).length : Int) != ((ofE 11 (-1) xs).length : Int) + 1) = false := by simp; omega
  have HOB := Lib.hid (show Old w2 bo by obtain ⟨r, h1, _⟩ := hm.out; exact old h1)
  clear hm hnn hcount HS1 C1 hcl
  generalize hps : cutL xs = ps at HCL HAT HFA HEN hle tcn ⊢
  have HLE := Lib.hid hle
  have gp : (ps.length : Int) ≤ 501 := by omega
  clear hle hps
  go_wp2_with fail
  refine (of_any (n := n) xs 11 (-1) w2 (HS.out.chg C2.out (by simp)) HL.out (by have := HN.out; omega)).mono ?_
  rintro e w3 ⟨A3, c3, rfl, s3, k3⟩
  have C3 := Lib.hid (C2.out.trans k3)
  have HC3 := Lib.hid (HC2.out.keep k3)
  have HOB3 := Lib.hid (HOB.out.chg k3)
  clear s3 k3 HC2 C2 HOB
  go_wp2_with fail
  clear goc goc0 tcn
  go_loopw [8, 9] (fun va vi wi => ∃ i : Nat, i ≤ ps.length ∧ vi = .int .i64 i ∧ va = .int .i64 ((stN ps i - 1 : Nat) : Int) ∧ Chg [] w3 wi) (fun _ vi _ => ps.length - (intOf vi).toNat)
  case atStart => exact ⟨0, by omega, rfl, rfl, Chg.refl _ _⟩
  case round =>
    obtain ⟨i, hi, rfl, rfl, hc⟩ := hrel
    have HC := Lib.hid hc
    have HI := Lib.hid hi
    clear hc hi
    by_cases hli : i < ps.length
    · obtain ⟨p, hp⟩ : ∃ p, ps[i]? = some p := ⟨ps[i], List.getElem?_eq_getElem hli⟩
      have hnx := stN_next hp
      have HAT2 := Lib.hid (HAT.out i p hp)
      have HP := Lib.hid hp
      have hps2 : ((cutS xs).1 ++ [(cutS xs).2])[i]? = some p := by rw [← HCL.out]; exact hp
      have gi : (i : Int) < (ps.length : Int) := by omega
      have gi0 : (0 : Int) ≤ (i : Int) := by omega
      have HLI := Lib.hid hli
      have HPS2 := Lib.hid hps2
      have hst : stN ps (i + 1) ≤ n + 1 := by have := stN_le ps (show i + 1 ≤ ps.length from hli); have h3 := HEN.out; rw [HL.out] at h3; omega
      have HNX := Lib.hid hnx
      have HST := Lib.hid hst
      clear hp hps2 hli hnx hst
      by_cases h0 : i = 0
      · rw [show stN ps i - 1 = 0 by rw [h0]; rfl]
        generalize hsN : stN ps i = sN at HNX HAT2
        have HSN := Lib.hid (show sN = 0 by rw [← hsN, h0]; rfl)
        have g0i : ¬ (0 : Int) < (i : Int) := by omega
        clear hsN h0
        go_wp2_with fail
        go_loopw [8, 10] (fun va vk wj => ∃ k : Nat, k ≤ p.length ∧ vk = .int .i64 k ∧ va = .int .i64 ((sN + k : Nat) : Int) ∧ Chg [] w3 wj) (fun _ vk _ => p.length - (intOf vk).toNat)
        case atStart => exact ⟨0, by omega, rfl, by rw [HSN.out]; rfl, HC.out⟩
        case round =>
          clear HC
          obtain ⟨k, hk, rfl, rfl, hc⟩ := hrel
          obtain ⟨r, Ap, cp2, ho, hat, hsp⟩ := (HC3.out.keep hc).at HPS2.out
          have HC := Lib.hid hc
          have HSP := Lib.hid hsp
          have hnx := HNX.out
          have hst := HST.out
          have hn := HN.out
          have gpl : (p.length : Int) ≤ 500 := by omega
          have gpl0 : (0 : Int) ≤ (p.length : Int) := by omega
          have gk0 : (0 : Int) ≤ (k : Int) := by omega
          by_cases hlk : k < p.length
          · obtain ⟨x, hx1, hx2, hx3⟩ := HAT2.out k hlk
            have gk : (k : Int) < (p.length : Int) := by omega
            have hlt : sN + k < n := by omega
            have HK := Lib.hid hlk
            generalize ha : sN + k = a at hx1 hlt ⊢
            have HA := Lib.hid ha
            have ga : (a : Int) < (n : Int) := by omega
            have ga0 : (0 : Int) ≤ (a : Int) := by omega
            obtain ⟨b, o, rfl⟩ := HS.out.addr (by omega)
            obtain ⟨b', o', rfl⟩ := HSP.out.addr (by omega)
            obtain ⟨cs, t, f, hb, r1, r2, _⟩ := ev_at (HS.out.chg (C3.out.trans hc) (by simp)) hlt hx1
            obtain ⟨cs', t', f', hb', s1, s2, s3⟩ := ev_at HSP.out hlk hx2
            have tq : decide (x = x) = true := by simp
            have te : decide (n ≤ a) = false := by simp; omega
            have tk : (x.kd == 11) = false := by simpa using hx3
            clear hx1 hx2 hx3 hlt ha hlk hk hc hsp hnx hst hn
            go_wp2_with fail
            go_quiet (fail)
            go_wp2_with fail
            go_roundw
            case rel => exact ⟨k + 1, HK.out, by go_num, by have := HA.out; rw [show sN + (k + 1) = a + 1 by omega]; go_num, HC.out.drewN _⟩
            case measure => have := HK.out; simp [intOf]; omega
          · have : k = p.length := by omega
            subst this
            clear hlk hk hc hsp hst hn
            go_wp2_with fail
            clear ho hat
            go_roundw
            case rel => exact ⟨i + 1, HLI.out, by go_num, by rw [hnx]; rfl, HC.out⟩
            case measure => have := HLI.out; simp [intOf]; omega
      · obtain ⟨e, he1, he2⟩ := HFA.out (i - 1) (by have := HLI.out; omega)
        rw [show i - 1 + 1 = i by omega] at he1
        have hpos : 1 ≤ stN ps i := by
          have := stN_le ps (show 1 ≤ i by omega)
          have h3 : 1 ≤ stN ps 1 := by
            obtain ⟨q, hq⟩ : ∃ q, ps[0]? = some q := ⟨ps[0]'(by have := HLI.out; omega), List.getElem?_eq_getElem _⟩
            have := stN_next hq
            rw [this]; omega
          omega
        generalize hsN : stN ps i = sN at HNX HAT2 he1 hpos ⊢
        have HSN := Lib.hid hsN
        obtain ⟨a, rfl⟩ : ∃ a, sN = a + 1 := ⟨sN - 1, by omega⟩
        rw [Nat.add_sub_cancel] at he1 ⊢
        have hlt : a < n := by have := HNX.out; have := HST.out; omega
        have g0i : (0 : Int) < (i : Int) := by omega
        have ga : ¬ (n : Int) ≤ (a : Int) := by omega
        have ga0 : (0 : Int) ≤ (a : Int) := by omega
        have ga1 : (a : Int) < (n : Int) := by omega
        obtain ⟨b, o, rfl⟩ := HS.out.addr (by omega)
        obtain ⟨cs, t, f, hb, _, _, r1⟩ := ev_at (HS.out.chg (C3.out.trans HC.out) (by simp)) hlt he1
        rw [he2] at r1
        clear he1 he2 hpos hsN hlt h0
        go_wp2_with fail
        clear ga ga1 hb r1
        go_loopw [8, 10] (fun va vk wj => ∃ k : Nat, k ≤ p.length ∧ vk = .int .i64 k ∧ va = .int .i64 (((a + 1) + k : Nat) : Int) ∧ Chg [] w3 wj) (fun _ vk _ => p.length - (intOf vk).toNat)
        case atStart => exact ⟨0, by omega, rfl, by go_num, HC.out⟩
        case round =>
          clear HC
          obtain ⟨k, hk, rfl, rfl, hc⟩ := hrel
          obtain ⟨r, Ap, cp2, ho, hat, hsp⟩ := (HC3.out.keep hc).at HPS2.out
          have HC := Lib.hid hc
          have HSP := Lib.hid hsp
          have hnx := HNX.out
          have hst := HST.out
          have hn := HN.out
          have gpl : (p.length : Int) ≤ 500 := by omega
          have gpl0 : (0 : Int) ≤ (p.length : Int) := by omega
          have gk0 : (0 : Int) ≤ (k : Int) := by omega
          by_cases hlk : k < p.length
          · obtain ⟨x, hx1, hx2, hx3⟩ := HAT2.out k hlk
            have gk : (k : Int) < (p.length : Int) := by omega
            have hlt : (a + 1) + k < n := by omega
            have HK := Lib.hid hlk
            generalize ha : (a + 1) + k = aa at hx1 hlt ⊢
            have HA := Lib.hid ha
            have ga : (aa : Int) < (n : Int) := by omega
            have ga0 : (0 : Int) ≤ (aa : Int) := by omega
            obtain ⟨b', o', rfl⟩ := HSP.out.addr (by omega)
            obtain ⟨cs, t, f, hb, r1, r2, _⟩ := ev_at (HS.out.chg (C3.out.trans hc) (by simp)) hlt hx1
            obtain ⟨cs', t', f', hb', s1, s2, s3⟩ := ev_at HSP.out hlk hx2
            have tq : decide (x = x) = true := by simp
            have te : decide (n ≤ aa) = false := by simp; omega
            have tk : (x.kd == 11) = false := by simpa using hx3
            clear hx1 hx2 hx3 hlt ha hlk hk hc hsp hnx hst hn
            go_wp2_with fail
            go_quiet (fail)
            go_wp2_with fail
            go_roundw
            case rel => exact ⟨k + 1, HK.out, by go_num, by have := HA.out; rw [show (a + 1) + (k + 1) = aa + 1 by omega]; go_num, HC.out.drewN _⟩
            case measure => have := HK.out; simp [intOf]; omega
          · have : k = p.length := by omega
            subst this
            clear hlk hk hc hsp hst hn
            go_wp2_with fail
            clear ho hat
            go_roundw
            case rel => exact ⟨i + 1, HLI.out, by go_num, by rw [hnx]; rfl, HC.out⟩
            case measure => have := HLI.out; simp [intOf]; omega
    · have : i = ps.length := by have := HI.out; omega
      subst this
      rw [HEN.out, HL.out, Nat.add_sub_cancel]
      have cw := C3.out.trans HC.out
      have K4 := (Chg.refl [] wr).alloc (.cells #[] 29)
      have oq := (HOB3.out.chg HC.out)
      have ne4 : wr.heap.size ≠ bo := by have := oq.lt; omega
      have hE : (wr.alloc (.cells #[] 29)).heap[wr.heap.size]? = some (.cells #[] 29 (0, 0)) := (MapKept.heap_alloc wr _).1
      obtain ⟨be1, cp1, A4, w4, happ1, hv1, hbe1, cc1⟩ := Vec.acc (ty := 22) eltEv (w0 := wr) K4 (vec_empty hE ne4) (.inr (Nat.le_refl _)) oq (HS.out.chg (cw.trans K4) (by simp)) (c := cap) HL.out (by have := HN.out; simp only [List.length_nil]; omega) (by have := HN.out; simp only [List.length_nil, maxLen]; omega)
      obtain ⟨be2, cp2, A5, w5, happ2, hv2, hbe2, cc2⟩ := Vec.acc (ty := 22) eltEv (w0 := wr) cc1 hv1 hbe1 oq (HS'.out.chg (cw.trans cc1) (by simp)) (c := cap') HL'.out (by have := HN.out; have := HM.out; have := HL.out; simp only [List.nil_append]; omega) (by have := HN.out; have := HM.out; have := HL.out; simp only [List.nil_append, maxLen]; omega)
      simp only [List.length_nil, Nat.zero_add, List.nil_append, HL.out] at happ1 happ2 hv2
      have hlb : (xs ++ ys).length = n + m := by rw [List.length_append, HL.out, HL'.out]
      have S5 := hv2.sl Ev.len
      rw [hlb] at S5
      have HS5 := Lib.hid S5
      have HLB := Lib.hid hlb
      have C5 := Lib.hid (cw.trans cc2)
      have OQ := Lib.hid (oq.chg cc2)
      clear cw K4 oq ne4 hE hv1 hbe1 cc1 hv2 hbe2 cc2 hlb S5
      go_upto_region 21 with fail
      clear happ1 happ2
      have tan : ((n : Int) == (n : Int)) = true := by simp
      go_wp2_with fail
      refine (tells_any (n := n + m) (xs ++ ys) co w5 HS5.out HLB.out (by have := HN.out; have := HM.out; omega)).mono ?_
      rintro e w6 ⟨A6, c6, rfl, s6, k6⟩
      rw [tellV_append] at s6 ⊢
      have S6 := Lib.hid s6
      have C6 := Lib.hid (C5.out.trans k6)
      have OQ6 := Lib.hid (OQ.out.chg k6)
      have K7 := (Chg.refl [] w6).alloc (.cells #[] 27)
      have hE7 : (w6.alloc (.cells #[] 27)).heap[w6.heap.size]? = some (.cells #[] 27 (0, 0)) := (MapKept.heap_alloc w6 _).1
      have HE7 := Lib.hid hE7
      have HK7 := Lib.hid K7
      have HNE7 := Lib.hid (show w6.heap.size ≠ bo by have := OQ6.out.lt; omega)
      clear s6 k6 K7 hE7 C5 OQ HS5
      go_wp2_with fail
      refine (tells_any (n := n) xs co _ (HS.out.chg (C6.out.trans HK7.out) (by simp)) HL.out (by have := HN.out; omega)).mono ?_
      rintro e w8 ⟨A8, c8, rfl, s8, k8⟩
      have hx8 := tellV_le co xs
      have hx9 := tellV_le co ys
      obtain ⟨be9, cp9, A9, w9, happ9, hv9, hbe9, cc9⟩ := Vec.acc (ty := 31) eltU (w0 := w6) (HK7.out.trans k8) (vec_empty (k8.keep HE7.out (by simp)) HNE7.out) (.inr (Nat.le_refl _)) OQ6.out s8 (c := c8) rfl (by have := HN.out; have := HL.out; simp only [List.length_nil]; omega) (by have := HN.out; have := HL.out; simp only [List.length_nil, maxLen]; omega)
      simp only [List.length_nil, Nat.zero_add, List.nil_append] at happ9 hv9
      have HV9 := Lib.hid hv9
      have HBE9 := Lib.hid hbe9
      have HC9 := Lib.hid cc9
      have HX8 := Lib.hid hx8
      have HX9 := Lib.hid hx9
      clear s8 k8 hv9 hbe9 cc9 HE7 hx8 hx9
      go_wp2_with fail
      clear happ9
      refine (tells_any (n := m) ys co _ (HS'.out.chg (C6.out.trans HC9.out) (by simp)) HL'.out (by have := HM.out; omega)).mono ?_
      rintro e wb ⟨Ab, cb, rfl, sb, kb⟩
      obtain ⟨bec, cpc, Ac, wc, happc, hvc, hbec, ccc⟩ := Vec.acc (ty := 31) eltU (w0 := w6) (HC9.out.trans kb) (HV9.out.keep kb (by simp)) HBE9.out OQ6.out sb (c := cb) rfl (by have := HN.out; have := HM.out; have := HL.out; have := HL'.out; have := HX8.out; have := HX9.out; omega) (by have := HN.out; have := HM.out; have := HL.out; have := HL'.out; have := HX8.out; have := HX9.out; simp only [maxLen]; omega)
      have HVC := Lib.hid hvc
      have HCC := Lib.hid ccc
      clear sb kb hvc hbec ccc
      go_wp2_with fail
      clear happc
      have hlt : (tellV co xs ++ tellV co ys).length = (tellV co xs).length + (tellV co ys).length := List.length_append
      have Sc := HVC.out.sl ue_len
      have S6c := S6.out.chg HCC.out (by simp)
      rw [hlt] at Sc S6c
      refine (words_same (n := (tellV co xs).length + (tellV co ys).length) (tellV co xs ++ tellV co ys) wc ?_ Sc hlt (by have := HN.out; have := HM.out; have := HL.out; have := HL'.out; have := HX8.out; have := HX9.out; omega)).mono ?_
      · exact S6c
      rintro e wd ⟨rfl, kd⟩
      have CD := Lib.hid ((C6.out.trans HCC.out).trans kd)
      clear kd Sc S6c hlt
      go_wp2_with fail
      refine (wakes_any wd).mono ?_
      rintro e we ⟨rfl, ke⟩
      go_wp2_with fail
      go_ret
      exact ⟨rfl, CD.out.trans ke⟩
end Go.Proofs.Ytfkiejhdfngmnaa
