import Derived.Test.YtibnehmgeccedaaSbr
import Derived.Deep.Cut
import Derived.Deep.CutBlock
import Derived.Deep.CutRange
namespace Go.Proofs.Ytibnehmgeccedaa
open Go.RowKit
set_option linter.unusedVariables false
set_option maxHeartbeats 1000000

theorem wideStp : Wide Try.prog 35 6 := ⟨⟨_, Try.underlying35, by rfl⟩, by kernel_rfl⟩
theorem loadStp (x : Value) : Instr.loadAt 35 x = loadS 35 6 x := rfl
theorem storeStp (x y : Value) : Instr.storeAt 35 x y = storeS 35 6 x y := rfl
attribute [local go_sem ↓] append_appS copy_copS clear_clrS make_mkS cell_row frozen_row loadSe storeSe loadBuf storeBuf heap_drew heap_drewN heap_alloc heap_past heap_setCell heap_putRow sec_kd sec_li sec_wo sec_va sec_sn bfc_room bfc_first bfc_count
attribute [local go_sem] rowCell_some rowFrozen_some rowHas_some rowIn_some rowPart_full rowPart_lit rowPut_full rowPut_lit rowSet_some size_putRow wideSe wideBuf run_loadS run_storeS run_appS run_copS run_clrS run_mkS loadW_at storeW_at fit_all fit_le fit_pl one_int one_bool one_pointer one_slice allOne_list putRow_new ne_size1 ne_size2 ne_size3 ne_size4 sec_size sec_one sec_lit sec_z sec_ne sec_set0 sec_set1 sec_set2 sec_set3 sec_set4 seZ_kd seZ_li seZ_wo seZ_va seZ_sn fold_sec bfc_size bfc_one bfc_setFirst bfc_setCount bfc_in bfc_has bfc_part bfc_put bfc_sent
attribute [local simp ↓] heap_drew heap_drewN heap_alloc heap_past heap_setCell heap_putRow
attribute [local simp] rowCell_some rowFrozen_some rowHas_some rowIn_some rowPart_full rowPart_lit rowPut_full rowPut_lit rowSet_some size_putRow fit_all fit_pl putRow_new ne_size1 ne_size2 ne_size3 ne_size4 sec_size bfc_size bfc_setFirst bfc_setCount bfc_has bfc_put bfc_sent
attribute [local go_sem ↓] zbuf
attribute [local go_sem] bfc_setRoom bfc_ne
attribute [local go_sem ↓] loadRSe storeRSe loadFnd storeFnd loadStp storeStp
attribute [local go_sem] wideRSe wideFnd wideStp
theorem results_rse1 {fn : Func} {p : Tmp} (h : fn.results = #[.cell p 38]) (tmps : Array Value) (w : World) (b : Nat) (x : Se) (fr : Nat × Nat)
    (hp : tmps.getD p undef = .pointer (some ⟨b, 0, none⟩)) (hb : w.heap[b]? = some (.cells (sec x) 38 fr)) :
    (results fn tmps).run Try.prog w = .ok (.agg (sec x)) w := by
  have hp' : tmps[p]?.getD undef = .pointer (some ⟨b, 0, none⟩) := by simpa using hp
  have := run_loadVar_row (P := Try.prog) w b 38 38 (sec x) fr _ hb Try.underlying38 rfl (by rw [sec_size]; kernel_rfl)
  simp [results, h, hp', asAddr, this]
theorem put12_new2 (w : World) (o : Obj) (c cs : Array Value) (t : TypeId) (h : cs.size = c.size) : putRow ((w.alloc o).alloc (.cells c t)) (w.heap.size + 1) 0 cs = (w.alloc o).alloc (.cells cs t) := by
  have := putRow_new (w.alloc o) c cs t h
  rwa [show (w.alloc o).heap.size = w.heap.size + 1 by simp] at this
theorem own12 (x : Se) (w : World) : Calls Try.prog 12 #[.agg (sec x)] w fun e w' => e = .returned (.agg (sec x)) ∧ Chg [] w w' := by
  go_enter Try.func12, Try.ntmps12
  go_wp2_with fail
  rw [show (⟨x.kd, x.li, x.wo, x.va, x.sn⟩ : Se) = x from rfl, put12_new2 _ _ _ _ _ (by rw [sec_size, sec_size])]
  refine bodyPost_ret (v := .agg (sec x)) ?_ (by rfl) ?_
  · exact results_rse1 (by rfl) _ _ (w.heap.size + 1) x (0, 0) (by rfl) (by simp)
  · exact ⟨rfl, ((Chg.refl _ _).alloc _).alloc _⟩
theorem se_same (x : Se) (w : World) : (Op.equalIn 10000 33 (.agg (sec x)) (.agg (sec x))).run Try.prog w = .ok true w := by
  have h0 := run_part_plain (P := Try.prog) w (e := 3) (by kernel_rfl) (sec_kd x)
  have h1 := run_part_plain (P := Try.prog) w (e := 3) (by kernel_rfl) (sec_li x)
  have h2 := run_part_plain (P := Try.prog) w (e := 3) (by kernel_rfl) (sec_wo x)
  have h3 := run_part_plain (P := Try.prog) w (e := 31) (by kernel_rfl) (sec_va x)
  have h4 := run_part_plain (P := Try.prog) w (e := 4) (by kernel_rfl) (sec_sn x)
  have e0 := fun a => run_equalIn_int w 9998 3 .i64 .i64 a a Try.underlying3
  have e2 := fun a => run_equalIn_int w 9998 31 .u64 .u64 a a Try.underlying31
  have e1 := fun a => run_equalIn_bool w 9998 4 a a Try.underlying4
  rw [run_equalIn_struct w 9999 33 _ _ (by simp only [Program.fieldsOf, Try.underlying33]) (by kernel_rfl)]
  simp only [Program.fieldsOf, Try.underlying33]
  simp [Op.eqFields, h0, h1, h2, h3, h4, e0, e1, e2]
theorem rse_same (x : Se) (w : World) : (Op.equalIn 10000 38 (.agg (sec x)) (.agg (sec x))).run Try.prog w = .ok true w := by
  have h0 := run_part_plain (P := Try.prog) w (e := 3) (by kernel_rfl) (sec_kd x)
  have h1 := run_part_plain (P := Try.prog) w (e := 3) (by kernel_rfl) (sec_li x)
  have h2 := run_part_plain (P := Try.prog) w (e := 3) (by kernel_rfl) (sec_wo x)
  have h3 := run_part_plain (P := Try.prog) w (e := 31) (by kernel_rfl) (sec_va x)
  have h4 := run_part_plain (P := Try.prog) w (e := 4) (by kernel_rfl) (sec_sn x)
  have e0 := fun a => run_equalIn_int w 9998 3 .i64 .i64 a a Try.underlying3
  have e2 := fun a => run_equalIn_int w 9998 31 .u64 .u64 a a Try.underlying31
  have e1 := fun a => run_equalIn_bool w 9998 4 a a Try.underlying4
  rw [run_equalIn_struct w 9999 38 _ _ (by simp only [Program.fieldsOf, Try.underlying38]) (by kernel_rfl)]
  simp only [Program.fieldsOf, Try.underlying38]
  simp [Op.eqFields, h0, h1, h2, h3, h4, e0, e1, e2]
attribute [local go_sem ↓] se_same rse_same
theorem same12 {w : World} {A B : Option Addr} {n c c' : Nat} {xs : List Se} (h1 : Sl w 5 A n (cat Se.enc xs)) (h2 : Sl w 5 B n (cat Se.enc xs)) (hl : n = xs.length) (hn : n ≤ 100000) :
    Calls Try.prog 22 #[.slice A n c, .slice B n c'] w fun e w' => e = .returned (.bool true) ∧ Chg [] w w' := by
  have H1 := Lib.hid h1
  have H2 := Lib.hid h2
  have HL := Lib.hid hl
  have tn : ((n : Int) != (n : Int)) = false := by simp
  clear h1 h2 hl
  go_enter Try.func22, Try.ntmps22
  go_wp2
  go_loopw [5] (fun i wr => ∃ k : Nat, k ≤ n ∧ i = .int .i64 k ∧ Chg [] w wr) (fun i _ => n - (intOf i).toNat)
  case atStart => exact ⟨0, by omega, rfl, Chg.refl _ _⟩
  case round =>
    obtain ⟨k, hk, rfl, hc⟩ := hrel
    have HC := Lib.hid hc
    clear hc
    by_cases hlt : k < n
    · obtain ⟨b, o, rfl⟩ := H1.out.addr (by omega)
      obtain ⟨b', o', rfl⟩ := H2.out.addr (by omega)
      obtain ⟨y, hy⟩ : ∃ y, xs[k]? = some y := ⟨xs[k]'(by rw [← HL.out]; exact hlt), List.getElem?_eq_getElem _⟩
      obtain ⟨cs, t, f, hb, _, hpa⟩ := (H1.out.chg HC.out (by simp)).elem (by omega) hlt (cat_part Se.len hy)
      obtain ⟨cs', t', f', hb', _, hpa'⟩ := (H2.out.chg HC.out (by simp)).elem (by omega) hlt (cat_part Se.len hy)
      have e12 : ((Se.enc y).drop 0 |>.take 5).toArray = sec y := by rw [List.drop_zero, List.take_of_length_le (by rw [Se.len]; exact Nat.le_refl _)]; rfl
      obtain ⟨r1, r2⟩ := hpa 0 5 (by omega)
      obtain ⟨s1, s2⟩ := hpa' 0 5 (by omega)
      rw [e12, Nat.add_zero] at r2 s2
      rw [Nat.add_zero] at r1 s1
      have g1 : (k : Int) < (n : Int) := by omega
      have g0 : (0 : Int) ≤ (k : Int) := by omega
      have g2 : (n : Int) ≤ 100000 := by omega
      clear hy hpa hpa' e12
      have HLT := Lib.hid hlt
      clear hlt
      go_wp2
      go_region_held3 (fun w' => w'.heap[b]? = some (.cells cs t f) ∧ w'.heap[b']? = some (.cells cs' t' f')) (first | exact ⟨hb, hb'⟩ | exact ⟨(((Chg.refl [] wr).drew).trans c3).keep hb (by simp), (((Chg.refl [] wr).drew).trans c3).keep hb' (by simp)⟩)
        (first
          | (go_at_call 12; refine (own12 y _).mono ?_; rintro e w3 ⟨rfl, c3⟩))
      go_wp2
      go_roundw
      case rel => exact ⟨k + 1, by have := HLT.out; omega, by go_num, HC.out.trans (((Chg.refl [] wr).drew).trans c3)⟩
      case measure => have := HLT.out; simp [intOf]; omega
    · have : k = n := by omega
      subst this
      go_wp2
      go_ret
      exact ⟨rfl, HC.out⟩

/-- The program's at q, the document's at p: all of it is new to the world W; nothing else has changed since. -/
def Two (W w : World) (q p bp room : Nat) (es fs : List Se) : Prop :=
  Chg [] W w ∧ Buf w q room es ∧ RBuf w p bp room fs ∧ q ≠ p ∧ q ≠ bp ∧ W.heap.size ≤ q ∧ W.heap.size ≤ p ∧ W.heap.size ≤ bp
section
variable {W w w' : World} {q p bp bp' room : Nat} {es es' fs fs' : List Se} (h : Two W w q p bp room es fs)
include h
theorem Two.keep (hc : Chg [] w w') : Two W w' q p bp room es fs := ⟨h.1.trans hc, h.2.1.keep hc (by simp), h.2.2.1.keep hc (by simp) (by simp), h.2.2.2⟩
theorem Two.one (hc : Chg [q] w w') (hb : Buf w' q room es') : Two W w' q p bp room es' fs := by
  obtain ⟨h1, h2, h3, h4, h5, h6, h7, h8⟩ := h
  exact ⟨h1.trans' hc (by simp; omega), hb, h3.keep hc (by simp; omega) (by simp; omega), h4, h5, h6, h7, h8⟩
theorem Two.other (hc : Chg [p] w w') (hb : RBuf w' p bp' room fs') (hn : bp' = bp ∨ w.heap.size ≤ bp') : Two W w' q p bp' room es fs' := by
  have hq := h.2.1.oldq.lt
  obtain ⟨h1, h2, h3, h4, h5, h6, h7, h8⟩ := h
  have hs := h1.size
  exact ⟨h1.trans' hc (by simp; omega), h2.keep hc (by simp; omega), hb, h4, by omega, h6, h7, by omega⟩
theorem Two.other0 (hc : Chg [p] w w') (hb : RBuf w' p p room fs') : Two W w' q p p room es fs' := by
  obtain ⟨h1, h2, h3, h4, h5, h6, h7, h8⟩ := h
  exact ⟨h1.trans' hc (by simp; omega), h2.keep hc (by simp; omega), hb, h4, h4, h6, h7, h7⟩
theorem Two.side {z : Nat} (hc : Chg [z] w w') (hz : W.heap.size ≤ z) (h1 : z ≠ q) (h2 : z ≠ p) (h3 : z ≠ bp) : Two W w' q p bp room es fs :=
  ⟨h.1.trans' hc (by simp; omega), h.2.1.keep hc (by simp; omega), h.2.2.1.keep hc (by simp; omega) (by simp; omega), h.2.2.2⟩
theorem Two.newz {k : Nat} (hk : w.heap.size ≤ k) : W.heap.size ≤ k ∧ k ≠ q ∧ k ≠ p ∧ k ≠ bp := by
  have a := h.2.1.oldq.lt
  have b := h.2.2.1.oldp.lt
  have c := h.2.2.1.oldb.lt
  have d := h.1.size
  exact ⟨by omega, by omega, by omega, by omega⟩
theorem Two.newq {k : Nat} (hk : w.heap.size ≤ k) : k ∉ [q] := by have := h.2.1.oldq.lt; simp; omega
theorem Two.newp {k : Nat} (hk : w.heap.size ≤ k) : k ∉ [p] := by have := h.2.2.1.oldp.lt; simp; omega
theorem Two.len16 : es.length ≤ 16 := by have := h.2.1.le; omega
end
theorem sl_told {w : World} {b : Nat} {t : TypeId} {f : Nat × Nat} {es : List Se} (h : w.heap[b]? = some (.cells (sq Se.enc es []) t f)) : Sl w 5 (some ⟨b, 0, none⟩) es.length (cat Se.enc es) :=
  ⟨cat_length Se.len es, .inr ⟨b, 0, _, t, f, rfl, h, by rw [sq_toList, List.drop_zero, List.append_nil, List.take_of_length_le (by rw [cat_length Se.len]; exact Nat.le_refl _)]⟩⟩
theorem rb_nil {w : World} {p bp room : Nat} {es : List Se} (h : RBuf w p bp room es) : RBuf (w.setCell ⟨p, 1, none⟩ (.slice none 0 0)) p p room [] := by
  obtain ⟨⟨A, cap, h1, _⟩, h2⟩ := h
  refine ⟨⟨none, 0, ?_, Vec.nil _ _ _ _ _⟩, by simp, h2.2⟩
  rw [heap_setCell, if_pos rfl, h1, rowSet_some]; rfl
theorem calls_aft_chg12 {P : Program} {f : FuncId} {args : Array Value} {N : Nat} {W : World} {x : Aft N W} {v : Value} (hN : N ≤ W.heap.size)
    (h : Calls P f args x.w fun e w' => e = .returned v ∧ Chg [] x.w w') : Calls P f args x.w fun e w'' => e = .returned v ∧ ∃ y : Aft N W, w'' = y.w :=
  calls_aft hN (h.mono fun _ _ ⟨he, hc⟩ => ⟨he, hc.below (Nat.le_refl _) (by simp)⟩)
theorem bw1 : sbE 2 [] ⟨9, 3, 1, 5, false⟩ = [⟨9, 3, 1, 5, false⟩] := by decide
theorem bw1' : sbV 2 [] ⟨9, 3, 1, 5, false⟩ = 0 := by decide
theorem bw2 : sbE 2 [⟨9, 3, 1, 5, false⟩] ⟨9, 3, 1, 7, false⟩ = [⟨9, 3, 1, 5, false⟩, ⟨9, 3, 1, 7, false⟩] := by decide
theorem bw2' : sbV 2 [⟨9, 3, 1, 5, false⟩] ⟨9, 3, 1, 7, false⟩ = 0 := by decide
theorem bw3 : sbE 2 [⟨9, 3, 1, 5, false⟩, ⟨9, 3, 1, 7, false⟩] ⟨12, 3, 0, 0, false⟩ = [⟨9, 3, 1, 5, false⟩, ⟨9, 3, 1, 7, false⟩] := by decide
theorem bw3' : sbV 2 [⟨9, 3, 1, 5, false⟩, ⟨9, 3, 1, 7, false⟩] ⟨12, 3, 0, 0, false⟩ = 13 := by decide
theorem bw4 : fdV [⟨9, 3, 1, 5, false⟩, ⟨9, 3, 1, 7, false⟩] 3 1 = 7 := by decide
theorem bw4' : fdB [⟨9, 3, 1, 5, false⟩, ⟨9, 3, 1, 7, false⟩] 3 1 = true := by decide
set_option maxRecDepth 100000 in
theorem bwakes (W : World) : Calls Try.prog 7 #[] W fun e w' => e = .returned (.bool true) ∧ Chg [] W w' := by
  go_enter Try.func7, Try.ntmps7
  try dsimp only [List.append]
  go_wp2_with fail
  refine (snew_buf 2 W (by omega) (by omega)).mono ?_
  rintro e w1 ⟨q, rfl, hq, c1, b1⟩
  have HQ := Lib.hid hq
  have C1 := Lib.hid c1
  have B1 := Lib.hid b1
  clear hq c1 b1
  go_wp2_with fail
  refine (spush_ok ⟨9, 3, 1, 5, false⟩ B1.out).mono ?_
  rintro e w2 ⟨rfl, c2, b2⟩
  rw [bw1] at b2
  rw [bw1']
  have C2 := Lib.hid (C1.out.trans' c2 (by have := HQ.out; simp; omega))
  have B2 := Lib.hid b2
  clear c2 b2
  go_wp2_with fail
  refine (spush_ok ⟨9, 3, 1, 7, false⟩ B2.out).mono ?_
  rintro e w3 ⟨rfl, c3, b3⟩
  rw [bw2] at b3
  rw [bw2']
  have C3 := Lib.hid (C2.out.trans' c3 (by have := HQ.out; simp; omega))
  have B3 := Lib.hid b3
  clear c3 b3
  go_wp2_with fail
  refine (spush_ok ⟨12, 3, 0, 0, false⟩ B3.out).mono ?_
  rintro e w4 ⟨rfl, c4, b4⟩
  rw [bw3] at b4
  rw [bw3']
  have C4 := Lib.hid (C3.out.trans' c4 (by have := HQ.out; simp; omega))
  have B4 := Lib.hid b4
  clear c4 b4
  go_wp2_with fail
  refine (sfind_ok 3 1 B4.out).mono ?_
  rintro e w5 ⟨rfl, c5⟩
  rw [bw4, bw4']
  have C5 := Lib.hid (C4.out.trans c5)
  have B5 := Lib.hid (B4.out.keep c5 (by simp))
  clear c5
  go_wp2_with fail
  refine (spop_ok B5.out).mono ?_
  rintro e w6 ⟨rfl, c6, b6⟩
  rw [show hdE [(⟨9, 3, 1, 5, false⟩ : Se), ⟨9, 3, 1, 7, false⟩] = ⟨9, 3, 1, 5, false⟩ from rfl, show hdB [(⟨9, 3, 1, 5, false⟩ : Se), ⟨9, 3, 1, 7, false⟩] = true from rfl]
  have C6 := Lib.hid (C5.out.trans' c6 (by have := HQ.out; simp; omega))
  have B6 := Lib.hid (show Buf w6 q 2 [⟨9, 3, 1, 7, false⟩] from b6)
  have B7 := Lib.hid (B6.out.keep ((Chg.refl [] w6).alloc (.cells (sec ⟨9, 3, 1, 5, false⟩) 33)) (by simp))
  clear c6 b6
  go_wp2_with (first
    | (go_at_call 21; refine (slen_ok B7.out).mono ?_; rintro e w' ⟨rfl, rfl⟩; rw [show (([⟨9, 3, 1, 7, false⟩] : List Se).length : Int) = 1 from rfl]))
  go_ret
  exact ⟨rfl, C6.out.alloc _⟩
end Go.Proofs.Ytibnehmgeccedaa
