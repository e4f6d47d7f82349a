/- The document's own queue: its image, drained, all of it written: walked. No condition. -/
import Derived.Test.YtaignekkhfjicaaWpqs
namespace Go.Proofs.Ytaignekkhfjicaa
open Go.RowKit
set_option linter.unusedVariables false
attribute [local go_sem ↓] append_appS copy_copS clear_clrS make_mkS cell_row frozen_row loadLine storeLine loadEnt storeEnt loadREnt storeREnt heap_drew heap_drewN heap_alloc heap_past heap_setCell heap_putRow vs_get entc_pos
attribute [local go_sem] rowCell_some rowFrozen_some rowHas_some rowIn_some rowPart_full rowPart_lit rowPut_full rowPut_lit rowSet_some size_putRow vs_size vs_one wideLine wideEnt wideREnt run_loadS run_storeS run_appS run_copS run_clrS run_mkS loadW_at storeW_at fit_all fit_le one_int one_bool one_pointer one_slice allOne_list putRow_new ne_size1 ne_size2 ne_size3 ne_size4 zero8_length lines_nil line_eq lit8 entc_size entc_one entc_part entc_in entc_made fold_ent fold_entc fold_vs
attribute [local simp ↓] heap_drew heap_drewN heap_alloc heap_past heap_setCell heap_putRow
attribute [local simp] rowCell_some rowFrozen_some rowHas_some rowIn_some rowPart_full rowPart_lit rowPut_full rowPut_lit rowSet_some size_putRow vs_size fit_all putRow_new ne_size1 ne_size2 ne_size3 ne_size4 zero8_length entc_size


/-- A slice of lines that was made. -/
def ToldLines (w0 : World) (n : Nat) (xs : List Int) (e : Ending) (w' : World) : Prop := ∃ b c, e = .returned (.slice (some ⟨b, 0, none⟩) n c) ∧ Sl w' 8 (some ⟨b, 0, none⟩) n (xs.map (Value.int .u64)) ∧ Chg [] w0 w'
theorem rqimage_ok (p bp o bq n v room : Nat) (es : List Ent) (xs : List Int) (w : World) (hq : RQue w p bp o n room es) (hd : RDev w o bq n v xs) : Calls Try.prog 29 #[.pointer (some ⟨p, 0, none⟩)] w (ToldLines w n (over xs es)) := by
  have HQ := Lib.hid hq
  have HD := Lib.hid hd
  have hle : es.length ≤ 16 := by have := hq.2.1; have := hq.2.2.2.1; omega
  obtain ⟨⟨A, cap, hq, hv⟩, _, _, _, hn2, hn64, hlie⟩ := hq
  have HLX := Lib.hid (over_length es xs hd.2.2.1 hlie)
  have HP := Lib.hid hq
  obtain ⟨⟨co, hdo⟩, _⟩ := hd
  have HDO := Lib.hid hdo
  clear hv hlie
  go_enter Try.func29, Try.ntmps29
  go_wp2
  go_loopw [3, 4] (fun s i wr => ∃ (k be cp : Nat) (B : Option Addr), k ≤ n ∧ i = .int .i64 k ∧ s = .slice B k cp ∧ Chg [] w wr ∧ Vec 8 40 lenc wr p be B cp (lns (over xs es) k) ∧ (be = p ∨ w.heap.size ≤ be)) (fun _ i _ => n - (intOf i).toNat)
  case atStart => exact ⟨0, p, 0, none, by omega, rfl, rfl, Chg.refl _ _, Vec.nil _ _ _ _ _, .inl rfl⟩
  case round =>
    obtain ⟨k, be, cp, B, hk, rfl, rfl, hc, hvb, hbe⟩ := hrel
    have hpr := hc.keep HP.out (by simp)
    have hdr := hc.keep HDO.out (by simp)
    have oq := old hpr
    have od := old hdr
    by_cases hlt : k < n
    · have g1 : (k : Int) < (n : Int) := by omega
      have g0 : (0 : Int) ≤ (k : Int) := by omega
      have HC := Lib.hid hc
      have HVB := Lib.hid hvb
      have HBE := Lib.hid hbe
      clear hvb hbe hc
      go_wp2_with fail
      refine (rqread_ok p bp o bq n v room es xs k _ (HQ.out.keep HC.out (by simp) (by simp)) (HD.out.keep HC.out (by simp) (by simp)) hlt).mono ?_
      rintro e w1 ⟨rfl, c1⟩
      have hl8 := ln_length _ k (fit_line HLX.out hlt)
      have hlo : (lnOf (over xs es) k).val = ln (over xs es) k := lnOf_val _ k HLX.out hlt
      have ca := (((HC.out.trans c1).alloc (.cells (vs (ln (over xs es) k)) 40)).alloc (.cells (vs (ln (over xs es) k)) 40))
      have hsl : Sl ((w1.alloc (.cells (vs (ln (over xs es) k)) 40)).alloc (.cells (vs (ln (over xs es) k)) 40)) 8 (some ⟨w1.heap.size + 1, 0, none⟩) 1 (cat lenc [lnOf (over xs es) k]) := ⟨by rw [cat_length lenc_len]; rfl, .inr ⟨w1.heap.size + 1, 0, vs (ln (over xs es) k), 40, (0, 0), rfl, by simp, by rw [cat_one]; unfold lenc; rw [hlo]; simp [vs, List.take_of_length_le, hl8]⟩⟩
      have hkl := lns_length (over xs es) k
      obtain ⟨be', cap', A', w2, happ, hv2, hbe2, hc2⟩ := Vec.acc (ty := 59) eltLine ca (HVB.out.keep (((c1).alloc (.cells (vs (ln (over xs es) k)) 40)).alloc (.cells (vs (ln (over xs es) k)) 40)) (by simp)) HBE.out (old HP.out) hsl (c := 1) rfl (by rw [hkl]; omega) (by rw [hkl]; unfold maxLen; omega)
      rw [hkl] at happ
      rw [lns_succ] at hv2
      have HV2 := Lib.hid hv2
      have HB2 := Lib.hid hbe2
      have HC2 := Lib.hid hc2
      clear hv2 hbe2 hc2 hsl hkl hlo ca c1
      go_wp2
      go_roundw
      case rel => exact ⟨k + 1, be', cap', A', by omega, by go_num, rfl, HC2.out, HV2.out, HB2.out⟩
      case measure => simp [intOf]; omega
    · have : k = n := by omega
      subst this
      obtain ⟨_, rfl, _⟩ := hvb.there (by rw [lns_length]; omega)
      have hsl := hvb.sl lenc_len
      rw [cat_lns_all _ HLX.out, lns_length] at hsl
      have HSL := Lib.hid hsl
      clear hvb hbe hsl
      go_wp2
      go_ret
      exact ⟨be, cp, rfl, HSL.out, hc⟩

/-! ### Drained -/
def RApart (p bp o bq : Nat) : Prop := p ≠ o ∧ p ≠ bq ∧ bp ≠ o ∧ bp ≠ bq
theorem rdrain_none (p bp o n room : Nat) (es : List Ent) (i : Int) (w : World) (hq : RQue w p bp o n room es) (hi : ∀ e ∈ es, (e.pos : Int) ≠ i) :
    Calls Try.prog 18 #[.pointer (some ⟨p, 0, none⟩), .int .i64 i] w fun e w' => e = .returned (.int .i64 14) ∧ w = w' := by
  have HQ := Lib.hid hq
  have HI := Lib.hid hi
  have hle : es.length ≤ 16 := by have := hq.2.1; have := hq.2.2.2.1; omega
  obtain ⟨⟨A, cap, hq, hv⟩, _⟩ := hq
  have HV := Lib.hid hv
  clear hv hi
  go_enter Try.func18, Try.ntmps18
  go_wp2
  go_loop [5] (fun x => ∃ k : Nat, k ≤ es.length ∧ x = .int .i64 k) (fun x => es.length - (intOf x).toNat)
  case atStart => exact ⟨0, by omega, rfl⟩
  case round =>
    obtain ⟨k, hk, rfl⟩ := hrel
    by_cases hlt : k < es.length
    · obtain ⟨e, he⟩ : ∃ e, es[k]? = some e := ⟨es[k], List.getElem?_eq_getElem hlt⟩
      obtain ⟨_, rfl, r, hbe, _⟩ := HV.out.there (by omega)
      have g1 : (k : Int) < (es.length : Int) := by omega
      have g0 : (0 : Int) ≤ (k : Int) := by omega
      have rc := ent_cell he r
      have t1 : ((e.pos : Int) == i) = false := by simpa using HI.out e (List.mem_of_getElem? he)
      clear he
      go_wp2
      go_round
      case rel => exact ⟨k + 1, by omega, by go_num⟩
      case measure => simp [intOf]; omega
    · have : k = es.length := by omega
      subst this
      go_wp2
      go_ret
      exact ⟨rfl, rfl⟩
/-- All entries but the i-th, in a new block. -/
theorem append_cut (w : World) (p bp i cap : Nat) (A : Option Addr) (es : List Ent) (hp : Old w p) (hv : Vec 9 85 Ent.enc w p bp A cap es) (hi : i < es.length) (h16 : es.length ≤ 16) :
    ∃ (A1 A2 : Option Addr) (c1 c2 b2 : Nat) (w1 w2 : World),
      appR Try.prog 52 52 #[.slice (some ⟨w.heap.size, 0, none⟩) 0 0, .slice A i cap] (w.alloc (.cells #[] 85)) = .ok (.slice A1 i c1) w1 ∧
      appR Try.prog 52 52 #[.slice A1 i c1, .slice (if cap = i + 1 then A else A.map (·.add ((i + 1) * 9))) (es.length - (i + 1)) (cap - (i + 1))] w1 = .ok (.slice A2 (es.length - 1) c2) w2 ∧
      Chg [] w w1 ∧ Chg [] w w2 ∧ w.heap.size ≤ b2 ∧ Vec 9 85 Ent.enc w2 p b2 A2 c2 (es.eraseIdx i) := by
  have hle := hv.le
  have ca := (Chg.refl [] w).alloc (.cells #[] 85)
  have h0 : Vec 9 85 Ent.enc (w.alloc (.cells #[] 85)) p w.heap.size (some ⟨w.heap.size, 0, none⟩) 0 [] := .inr ⟨by have := hp.lt; omega, rfl, by simp, [], by rw [heap_alloc]; simp [sq, cat_nil], by simp⟩
  have hti : (es.take i).length = i := by rw [List.length_take]; omega
  obtain ⟨b1, c1, A1, w1, e1, v1, n1, g1⟩ := h0.app (ty := 52) eltREnt (hp.chg ca) ((hv.keep ca (by simp)).slTo Ent.len (Nat.le_of_lt hi)) (c := cap) hti (by simp; omega) (by simp [maxLen]; omega)
  have hb1 : w.heap.size ≤ b1 := by
    have := ca.size
    rcases n1 with h | h <;> omega
  have hc1 : Chg [] w w1 := ca.trans' g1.1 (by simp)
  have hv1 : Vec 9 85 Ent.enc w1 p bp A cap es := hv.keep hc1 (by simp)
  rw [List.nil_append] at v1
  simp only [List.length_nil, Nat.zero_add] at e1
  have hdi : (es.drop (i + 1)).length = es.length - (i + 1) := List.length_drop
  have hs2 : Sl w1 9 (if cap = i + 1 then A else A.map (·.add ((i + 1) * 9))) (es.length - (i + 1)) (cat Ent.enc (es.drop (i + 1))) := by
    split
    · exact ⟨by rw [cat_length Ent.len, hdi], .inl (by omega)⟩
    · obtain ⟨_, rfl, _⟩ := hv1.there (by omega)
      rw [Option.map_some, Addr.add_mid, Nat.zero_add]
      exact hv1.slFrom Ent.len (by omega)
  obtain ⟨b2, c2, A2, w2, e2, v2, n2, g2⟩ := v1.app (ty := 52) eltREnt (hp.chg hc1) hs2 (c := cap - (i + 1)) hdi (by rw [hti]; omega) (by rw [hti]; unfold maxLen; omega)
  rw [hti, show i + (es.length - (i + 1)) = es.length - 1 by omega] at e2
  rw [← erase_at] at v2
  refine ⟨A1, A2, c1, c2, b2, w1, w2, e1, e2, hc1, hc1.trans' g2.1 (by simpa using hb1), ?_, v2⟩
  have := hc1.size
  rcases n2 with h | h <;> omega
/-- Behind a drain. -/
def RQDrain (w : World) (p bp o bq n v room : Nat) (es : List Ent) (xs : List Int) (e : Ending) (w' : World) : Prop :=
  e = .returned (.int .i64 0) ∧ ∃ bp', w.heap.size ≤ bp' ∧ Chg [p, bq] w w' ∧ RQue w' p bp' o n room es ∧ RDev w' o bq n v xs
theorem rdrain_ok (p bp o bq n v room : Nat) (es : List Ent) (xs : List Int) (j : Nat) (x : Ent) (w : World) (hq : RQue w p bp o n room es) (hd : RDev w o bq n v xs) (ha : RApart p bp o bq) (hx : es[j]? = some x) (hi : ∀ e ∈ es.take j, (e.pos : Int) ≠ (x.pos : Int)) :
    Calls Try.prog 18 #[.pointer (some ⟨p, 0, none⟩), .int .i64 x.pos] w (RQDrain w p bp o bq n v room (es.eraseIdx j) (lnPut xs x.pos x.l)) := by
  have HQ := Lib.hid hq
  have HI := Lib.hid hi
  have HA := Lib.hid ha
  have HD := Lib.hid hd
  have HX := Lib.hid hx
  have hle : es.length ≤ 16 := by have := hq.2.1; have := hq.2.2.2.1; omega
  obtain ⟨⟨A, cap, hq, hv⟩, _⟩ := hq
  have HV := Lib.hid hv
  have hjl : j < es.length := (List.getElem?_eq_some_iff.1 hx).1
  clear hv hi ha hd hx
  go_enter Try.func18, Try.ntmps18
  go_wp2
  go_loop [5] (fun y => ∃ k : Nat, k ≤ j ∧ y = .int .i64 k) (fun y => es.length - (intOf y).toNat)
  case atStart => exact ⟨0, by omega, rfl⟩
  case round =>
    obtain ⟨k, hk, rfl⟩ := hrel
    obtain ⟨_, rfl, r, hbe, _⟩ := HV.out.there (by omega)
    have g1 : (k : Int) < (es.length : Int) := by omega
    have g0 : (0 : Int) ≤ (k : Int) := by omega
    by_cases hkj : k < j
    · obtain ⟨e, he⟩ : ∃ e, es[k]? = some e := ⟨es[k]'(by omega), List.getElem?_eq_getElem (by omega)⟩
      have rc := ent_cell he r
      have t1 : (e.pos == x.pos) = false := by
        have := HI.out e (List.mem_of_getElem? (show (es.take j)[k]? = some e by rw [List.getElem?_take_of_lt hkj]; exact he))
        simp; omega
      clear he
      go_wp2
      go_round
      case rel => exact ⟨k + 1, by omega, by go_num⟩
      case measure => simp [intOf]; omega
    · obtain rfl : k = j := by omega
      have rc := ent_cell HX.out r
      have rp := ent_line HX.out r 85 (0, 0)
      have ri := ent_lineIn HX.out r 85 (0, 0)
      have t1 : (x.pos == x.pos) = true := by simp
      have hx8 := x.h
      clear hkj hk
      go_wp2_with fail
      go_region_held3 (fun w' => w'.heap[p]? = some (.cells #[.pointer (some ⟨o, 0, none⟩), .int .i64 room, .slice (some ⟨bp, 0, none⟩) es.length cap] 54 (0, 0)) ∧ w'.heap[bp]? = some (.cells (sq Ent.enc es r) 85 (0, 0))) (first | exact ⟨hq, hbe⟩ | exact ⟨c2.keep hq (by have := HA.out.2.1; simpa using this), c2.keep hbe (by have := HA.out.2.2.2; simpa using this)⟩)
        ((go_at_call 22; refine (rwrite_ok o bq n v x.pos x.l xs _ (HD.out.keep ((Chg.refl [] w).drew) (by simp) (by simp)) (HQ.out.2.2.2.2.2.2.get HX.out) hx8).mono ?_; rintro e w' ⟨rfl, c2, d2⟩))
      all_goals
        have C2 := Lib.hid ((Chg.refl [bq] w).drew.trans c2)
        have D2 := Lib.hid d2
        have hq2 := C2.out.keep hq (by have := HA.out.2.1; simpa using this)
        have V2 := Lib.hid (HV.out.keep C2.out (by have := HA.out.2.2.2; simpa using this))
        clear c2 d2 hbe
        rename World => w2
        have oq2 := old hq2
        obtain ⟨A1, A2, ca, cb, b2, w3, w4, e1, e2, gg1, gg2, hb2, v4⟩ := append_cut w2.drew p bp k cap _ es (oq2.chg (Chg.refl [] w2).drew) (V2.out.keep (Chg.refl [] w2).drew (by simp)) hjl hle
        have ea : appR Try.prog 52 52 #[.slice (some ⟨w2.heap.size, 0, none⟩) 0 0, .slice (some ⟨bp, 0, none⟩) k cap] (w2.alloc (.cells #[] 85)).drew = .ok (.slice A1 k ca) w3 := e1
        have hq3 := ((Chg.refl [] w2).drew.trans gg1).keep hq2 (by simp)
        have hq4 := ((Chg.refl [] w2).drew.trans gg2).keep hq2 (by simp)
        have oq4 := old hq4
        have V4 := Lib.hid v4
        have G2 := Lib.hid ((Chg.refl [] w2).drew.trans gg2)
        have HB2 := Lib.hid (show w2.heap.size ≤ b2 from hb2)
        have g2 : (k : Int) + 1 ≤ (es.length : Int) := by omega
        have g3 : (k : Int) ≤ (cap : Int) := by have := V2.out.le; omega
        have eb : appR Try.prog 52 52 #[.slice A1 k ca, .slice (if cap = k + 1 then some ⟨bp, 0, none⟩ else some ⟨bp, (k + 1) * 9, none⟩) (es.length - (k + 1)) (cap - (k + 1))] w3 = .ok (.slice A2 (es.length - 1) cb) w4 := by
          rw [Option.map_some, Addr.add_mid, Nat.zero_add] at e2
          exact e2
        clear e1 e2 gg1 gg2 v4 hb2
        go_wp2_with fail
        go_region
        all_goals
          have hb2 := HB2.out
          have hz := C2.out.size
          have hle2 := old (HD.out.1.choose_spec)
          have hleb := old (HD.out.2.1.choose_spec)
          have hn : es.length - 1 = (es.eraseIdx k).length := by rw [List.length_eraseIdx, if_pos hjl]
          have D4 := Lib.hid (D2.out.keep ((G2.out.mono (l' := [p]) (by simp)).setCell p 2 (.slice A2 (es.length - 1) cb) (.inl (by simp))) (by have := HA.out.1; simp; omega) (by have := HA.out.2.1; simp; omega))
          have V5 := Lib.hid (V4.out.keep ((Chg.refl [p] w4).setCell p 2 (.slice A2 (es.length - 1) cb) (.inl (by simp))) (by have := (oq2.lt); simp; omega))
          have C5 := Lib.hid ((((C2.out.mono (l' := [p, bq]) (by simp)).trans' G2.out (by simp))).setCell p 2 (.slice A2 (es.length - 1) cb) (.inl (by simp)))
          have HN := Lib.hid hn
          have HB3 := Lib.hid (show w.heap.size ≤ b2 by omega)
          clear hn hb2 hz hle2 hleb
          go_wp2_with fail
          all_goals
           go_ret
           refine ⟨rfl, b2, HB3.out, C5.out, ⟨⟨A2, cb, ?_, V5.out⟩, by rw [← HN.out]; have := HQ.out.2.1; omega, HQ.out.2.2.1, HQ.out.2.2.2.1, HQ.out.2.2.2.2.1, HQ.out.2.2.2.2.2.1, HQ.out.2.2.2.2.2.2.sub (fun y hy => List.mem_of_mem_eraseIdx hy)⟩, D4.out⟩
           rw [← HN.out]
           simp [hq4]

/-! ### The power fails -/
def RQFail (w : World) (p o bq n v room : Nat) (xs : List Int) (e : Ending) (w' : World) : Prop :=
  e = .returned (.tuple #[]) ∧ Chg [p, bq] w w' ∧ RQue w' p p o n room [] ∧ RDev w' o bq n v xs
theorem rqfail_ok (p bp o bq n v room : Nat) (es : List Ent) (xs : List Int) (w : World) (hq : RQue w p bp o n room es) (hd : RDev w o bq n v xs) (ha : RApart p bp o bq) :
    Calls Try.prog 20 #[.pointer (some ⟨p, 0, none⟩)] w (RQFail w p o bq n v room (forget (over xs es) v)) := by
  have HQ := Lib.hid hq
  have HA := Lib.hid ha
  have HD := Lib.hid hd
  have hle : es.length ≤ 16 := by have := hq.2.1; have := hq.2.2.2.1; omega
  obtain ⟨⟨A, cap, hq, hv⟩, _⟩ := hq
  have HV := Lib.hid hv
  have HP := Lib.hid hq
  clear hv ha hd
  go_enter Try.func20, Try.ntmps20
  go_wp2
  go_loopw [2] (fun y wr => ∃ k : Nat, k ≤ es.length ∧ y = .int .i64 k ∧ Chg [bq] w wr ∧ RDev wr o bq n v (over xs (es.take k))) (fun y _ => es.length - (intOf y).toNat)
  case atStart => exact ⟨0, by omega, rfl, Chg.refl _ _, by rw [List.take_zero]; exact HD.out⟩
  case round =>
    obtain ⟨k, hk, rfl, hc, hd⟩ := hrel
    have hqr := hc.keep HP.out (by have := HA.out.2.1; simp; omega)
    have oqr := old hqr
    by_cases hlt : k < es.length
    · obtain ⟨e, he⟩ : ∃ e, es[k]? = some e := ⟨es[k], List.getElem?_eq_getElem hlt⟩
      obtain ⟨_, rfl, r, hbe, _⟩ := HV.out.there (by omega)
      have hbr := hc.keep hbe (by have := HA.out.2.2.2; simp; omega)
      have obe := old hbr
      have g1 : (k : Int) < (es.length : Int) := by omega
      have g0 : (0 : Int) ≤ (k : Int) := by omega
      have rc := ent_cell he r
      have rp := ent_line he r 85 (0, 0)
      have ri := ent_lineIn he r 85 (0, 0)
      have he8 := e.h
      have HC := Lib.hid hc
      have HDR := Lib.hid hd
      have HEN := Lib.hid (HQ.out.2.2.2.2.2.2.get he)
      have hs := Lib.hid (show lnPut (over xs (es.take k)) e.pos e.l = over xs (es.take (k + 1)) by rw [← over_snoc, List.take_add_one, he]; rfl)
      clear hbe hc hd he
      go_wp2_with fail
      go_region_held3 (fun w' => w'.heap[p]? = some (.cells #[.pointer (some ⟨o, 0, none⟩), .int .i64 room, .slice (some ⟨bp, 0, none⟩) es.length cap] 54 (0, 0)) ∧ w'.heap[bp]? = some (.cells (sq Ent.enc es r) 85 (0, 0))) (first | exact ⟨hqr, hbr⟩ | exact ⟨c2.keep hqr (by have := HA.out.2.1; simpa using this), c2.keep hbr (by have := HA.out.2.2.2; simpa using this)⟩)
        ((go_at_call 22; refine (rwrite_ok o bq n v e.pos e.l (over xs (es.take k)) _ (HDR.out.keep ((Chg.refl [] wr).drew) (by simp) (by simp)) HEN.out he8).mono ?_; rintro e w' ⟨rfl, c2, d2⟩))
      all_goals
        have D2 := Lib.hid d2
        have C2 := Lib.hid (HC.out.drew.trans c2)
        clear c2 d2
        go_wp2_with fail
        go_roundw
        case rel => exact ⟨k + 1, by omega, by go_num, C2.out, by rw [← hs.out]; exact D2.out⟩
        case measure => simp [intOf]; omega
    · obtain rfl : k = es.length := by omega
      have HC := Lib.hid hc
      have HDR := Lib.hid (show RDev wr o bq n v (over xs es) by rw [List.take_length] at hd; exact hd)
      have C1 := Lib.hid ((Chg.refl [p] wr).setCell p 2 (.slice none 0 0) (.inl (by simp)))
      have D1 := Lib.hid (HDR.out.keep C1.out (by have := HA.out.1; simp; omega) (by have := HA.out.2.1; simp; omega))
      clear hc hd
      go_wp2_with fail
      refine (rfail_ok o bq n v (over xs es) _ D1.out).mono ?_
      rintro e w3 ⟨rfl, c3, d3⟩
      have hp1 : (wr.setCell ⟨p, 2, none⟩ (.slice none 0 0)).heap[p]? = some (.cells #[.pointer (some ⟨o, 0, none⟩), .int .i64 room, .slice none 0 0] 54 (0, 0)) := by simp [hqr]
      have hp3 := c3.keep hp1 (by have := HA.out.2.1; simp; omega)
      have HP3 := Lib.hid hp3
      have C3 := Lib.hid (((HC.out.mono (l' := [p, bq]) (by simp)).trans' C1.out (by simp)).trans' c3 (by simp))
      have D3 := Lib.hid d3
      clear c3 d3 hp1 hp3
      go_wp2_with fail
      go_end0
      exact ⟨rfl, C3.out, ⟨⟨none, 0, HP3.out, Vec.nil _ _ _ _ _⟩, by simp, HQ.out.2.2.1, HQ.out.2.2.2.1, HQ.out.2.2.2.2.1, HQ.out.2.2.2.2.2.1, Lie.nil n⟩, D3.out⟩
end Go.Proofs.Ytaignekkhfjicaa
