/- Literals of package trace and what is chosen by them: walked. No condition. -/
import Derived.Test.YtfkiejhdfngmnaaTca
import Derived.Test.YtfkiejhdfngmnaaChecked
import Derived.Laws.LoneSync
import Derived.Lib.SliceRun
import Derived.Deep.RegionHeld3
import Derived.Deep.RegionWith
import Derived.Laws.StructEq
import Derived.ChangeKeysEq
import Derived.BigQuiet
import Derived.BigRegion
import Derived.Deep.QuietTactic
import Derived.WalkKit
import Derived.Deep.Cut
import Derived.Deep.CutBlock
import Derived.Deep.CutRange
import Derived.Deep.DeepCutAuto
import Derived.Deep.RegionLaw
namespace Go.Proofs.Ytfkiejhdfngmnaa
open Go.RowKit
set_option linter.unusedVariables false
set_option maxHeartbeats 1000000

theorem wideEv : Wide Try.prog 29 5 := ⟨⟨_, Try.underlying29, by rfl⟩, by kernel_rfl⟩
theorem loadEv (x : Value) : Instr.loadAt 29 x = loadS 29 5 x := rfl
theorem storeEv (x y : Value) : Instr.storeAt 29 x y = storeS 29 5 x y := rfl
set_option maxRecDepth 100000
attribute [local go_sem ↓] append_appS copy_copS clear_clrS make_mkS cell_row frozen_row heap_drew heap_drewN heap_alloc heap_past heap_setCell heap_putRow loadEv storeEv evc_kd evc_co evc_li evc_wo evc_va
attribute [local go_sem] rowCell_some rowFrozen_some rowHas_some rowIn_some rowPart_full rowPart_lit rowPut_full rowPut_lit rowSet_some size_putRow run_loadS run_storeS run_appS run_copS run_clrS run_mkS loadW_at storeW_at fit_all fit_le one_int one_bool one_pointer one_slice allOne_list putRow_new ne_size1 ne_size2 ne_size3 ne_size4 wideEv evc_size evc_one evc_ne evc_lit evc_z evc_set0 evc_set1 evc_set2 evc_set3 evc_set4 evZ_kd evZ_co evZ_li evZ_wo evZ_va fold_evc
attribute [local simp ↓] heap_drew heap_drewN heap_alloc heap_past heap_setCell heap_putRow
attribute [local simp] rowCell_some rowFrozen_some rowHas_some rowIn_some rowPart_full rowPart_lit rowPut_full rowPut_lit rowSet_some size_putRow fit_all putRow_new ne_size1 ne_size2 ne_size3 ne_size4 evc_size fit_le
theorem eltEv : Elt Try.prog 22 29 5 40 (.agg (evc evZ)) Ev.enc where
  slice := Try.underlying22
  info := by kernel_rfl
  zero := evc_size evZ
  zone := by intro v hv; exact Ev.one evZ v (by simpa [Value.cells, evc] using hv)
  pos := by omega
  len := Ev.len
  one := Ev.one
theorem eltU : Elt Try.prog 31 27 1 8 (.int .u64 0) ue where
  slice := Try.underlying31
  info := by kernel_rfl
  zero := rfl
  zone := by intro v hv; simp [Value.cells] at hv; subst hv; rfl
  pos := by omega
  len := ue_len
  one := ue_one
theorem eltRf : Elt Try.prog 24 22 1 24 (.slice none 0 0) re where
  slice := Try.underlying24
  info := by kernel_rfl
  zero := rfl
  zone := by intro v hv; simp [Value.cells] at hv; subst hv; rfl
  pos := by omega
  len := re_len
  one := re_one
/-- One element at the head of a block. -/
theorem one_at {α : Type} {enc : α → List Value} {k : Nat} (hk : ∀ a, (enc a).length = k) {w : World} {b : Nat} {x : α} {T : TypeId} {f : Nat × Nat} {C : Array Value} (hC : C = (enc x).toArray) (h : w.heap[b]? = some (.cells C T f)) : Sl w k (some ⟨b, 0, none⟩) 1 (cat enc [x]) :=
  ⟨by rw [cat_length hk]; rfl, .inr ⟨b, 0, _, T, f, rfl, h, by rw [cat_one, hC]; simp [hk, List.take_of_length_le]⟩⟩
def Box (w : World) (b : Nat) (k : Int) : Prop := w.heap[b]? = some (.cells #[.int .i64 k] 3 (0, 0))
theorem Box.keep {w w' : World} {b : Nat} {k : Int} {l : List Nat} (h : Box w b k) (hc : Chg l w w') (hb : b ∉ l) : Box w' b k := Chg.keep hc h hb
/-! ### The literals -/
theorem of1_any (k c : Int) (e : Ev) (b1 b2 : Nat) (w : World) (h1 : Box w b1 k) (h2 : Box w b2 c) :
    Calls Try.prog 14 #[.agg (evc e), .pointer (some ⟨b1, 0, none⟩), .pointer (some ⟨b2, 0, none⟩)] w fun en w' => en = .returned (.bool (ofP k c e)) ∧ Chg [] w w' := by
  unfold Box at h1 h2
  have o1 := old h1
  have o2 := old h2
  unfold ofP
  generalize hx : (e.kd == k) = x
  generalize hy : (e.co == c) = y
  have hs : (k = 0 ∨ k ≠ 0 ∧ (k == 0) = false) ∧ (c = -1 ∨ c ≠ -1 ∧ (c == -1) = false) := by
    refine ⟨?_, ?_⟩
    · by_cases h : k = 0 <;> simp [h]
    · by_cases h : c = -1 <;> simp [h]
  obtain ⟨rfl | ⟨_, t1⟩, rfl | ⟨_, t2⟩⟩ := hs
  all_goals try rw [t1]
  all_goals try rw [t2]
  all_goals cases x
  all_goals
    go_enter Try.func14, Try.ntmps14
    go_wp2_with fail
    go_ret
    exact ⟨by simp, (Chg.refl _ _).alloc _⟩
theorem tells1_any (c : Int) (e : Ev) (b1 : Nat) (w : World) (h1 : Box w b1 c) :
    Calls Try.prog 17 #[.agg (evc e), .pointer (some ⟨b1, 0, none⟩)] w fun en w' => en = .returned (.bool (tellP c e)) ∧ Chg [] w w' := by
  unfold Box at h1
  have o1 := old h1
  unfold tellP
  generalize hx : (e.kd == 8) = x
  generalize hy : (e.co == c) = y
  cases x
  all_goals
    go_enter Try.func17, Try.ntmps17
    go_wp2_with fail
    go_ret
    exact ⟨by simp, (Chg.refl _ _).alloc _⟩
theorem stores1_any (l o : Int) (e : Ev) (b1 b2 : Nat) (w : World) (h1 : Box w b1 l) (h2 : Box w b2 o) :
    Calls Try.prog 20 #[.agg (evc e), .pointer (some ⟨b1, 0, none⟩), .pointer (some ⟨b2, 0, none⟩)] w fun en w' => en = .returned (.bool (storeP l o e)) ∧ Chg [] w w' := by
  unfold Box at h1 h2
  have o1 := old h1
  have o2 := old h2
  unfold storeP
  generalize hx : (e.kd == 3) = x
  generalize hy : (e.li == l) = y
  generalize hz : (e.wo == o) = z
  cases x
  all_goals cases y
  all_goals
    go_enter Try.func20, Try.ntmps20
    go_wp2_with fail
    go_ret
    exact ⟨by simp, (Chg.refl _ _).alloc _⟩
theorem results_ev {fn : Func} {p : Tmp} (h : fn.results = #[.cell p 29]) (tmps : Array Value) (w : World) (q : Nat) (x : Ev) (fr : Nat × Nat)
    (hp : tmps.getD p undef = .pointer (some ⟨q, 0, none⟩)) (hb : w.heap[q]? = some (.cells (evc x) 29 fr)) : (results fn tmps).run Try.prog w = .ok (.agg (evc x)) w := by
  have hp' : tmps[p]?.getD undef = .pointer (some ⟨q, 0, none⟩) := by simpa using hp
  have := run_loadVar_row (P := Try.prog) w q 29 29 (evc x) fr _ hb Try.underlying29 rfl (by rw [evc_size]; kernel_rfl)
  simp [results, h, hp', asAddr, this]
theorem two_new (w : World) (a b : Obj) : ((w.alloc a).alloc b).heap[w.heap.size]? = some a ∧ ((w.alloc a).alloc b).heap[w.heap.size + 1]? = some b ∧ Chg [] w ((w.alloc a).alloc b) := by
  refine ⟨?_, ?_, ((Chg.refl [] w).alloc _).alloc _⟩
  · rw [Below.heap_alloc _ _ _ (by simp)]; exact (MapKept.heap_alloc w a).1
  · have := (MapKept.heap_alloc (w.alloc a) b).1
    rw [show (w.alloc a).heap.size = w.heap.size + 1 by simp] at this
    exact this
theorem whole_any (e : Ev) (w : World) : Calls Try.prog 15 #[.agg (evc e)] w fun en w' => en = .returned (.agg (evc e)) ∧ Chg [] w w' := by
  obtain ⟨p1, p2, c1⟩ := two_new w (.cells (evc e) 29) (.cells (evc evZ) 29)
  have C1 := Lib.hid c1
  clear c1
  go_enter Try.func15, Try.ntmps15
  go_upto_region 1 with fail
  generalize ((w.alloc (.cells (evc e) 29)).alloc (.cells (evc evZ) 29)) = w1 at *
  generalize hp : w.heap.size + 1 = p at *
  generalize hq : w.heap.size = q at *
  have HP := Lib.hid (show w.heap.size ≤ p by omega)
  have HN := Lib.hid (show q ≠ p by omega)
  clear hp hq
  go_wp2_with fail
  refine bodyPost_ret (v := .agg (evc e)) (results_ev (by rfl) _ _ p _ (0, 0) (by rfl) (by simp [p2])) (by rfl) ⟨rfl, C1.out.putRow p 0 _ (.inr HP.out)⟩
theorem val_any (e : Ev) (w : World) : Calls Try.prog 18 #[.agg (evc e)] w fun en w' => en = .returned (.int .u64 e.va) ∧ Chg [] w w' := by
  go_enter Try.func18, Try.ntmps18
  go_wp2_with fail
  go_ret
  exact ⟨rfl, (Chg.refl _ _).alloc _⟩
/-- A slice of these elements, which was there or is new; nothing else was changed. -/
def ToldS {α : Type} (k : Nat) (enc : α → List Value) (W : World) (l : List α) (e : Ending) (w' : World) : Prop :=
  ∃ (A : Option Addr) (c : Nat), e = .returned (.slice A l.length c) ∧ Sl w' k A l.length (cat enc l) ∧ Chg [] W w'
theorem ToldS.up {α : Type} {k : Nat} {enc : α → List Value} {W w0 : World} {l : List α} {e : Ending} {w' : World} (h0 : Chg [] W w0) (h : ToldS k enc w0 l e w') : ToldS k enc W l e w' := by
  obtain ⟨A, c, h1, h2, h3⟩ := h
  exact ⟨A, c, h1, h2, h0.trans h3⟩

set_option maxHeartbeats 4000000 in
theorem choose_of {A : Option Addr} {n cap : Nat} (xs : List Ev) (k c : Int) (b1 b2 : Nat) (w : World) (h1 : Box w b1 k) (h2 : Box w b2 c) (hs : Sl w 5 A n (cat Ev.enc xs)) (hl : xs.length = n) (h5 : n ≤ 100000) :
    Calls Try.prog 13 #[.slice A n cap, .func (.func 14) #[] #[.pointer (some ⟨b1, 0, none⟩), .pointer (some ⟨b2, 0, none⟩)], .func (.func 15) #[] #[]] w (ToldS 5 Ev.enc w (ofE k c xs)) := by
  have HS := Lib.hid hs
  have HL := Lib.hid hl
  have HB := Lib.hid (show Box w b1 k ∧ Box w b2 c from ⟨h1, h2⟩)
  have HQ := Lib.hid (old h1)
  have gN : (n : Int) ≤ 100000 := by omega
  clear hs hl h1 h2
  go_enter Try.func13, Try.ntmps13
  go_wp2_with fail
  go_loopw [7, 12] (fun o i wr => ∃ (j be cp : Nat) (A' : Option Addr), j ≤ n ∧ i = .int .i64 j ∧ o = .slice A' (ofE k c (xs.take j)).length cp ∧ Vec 5 29 Ev.enc wr b1 be A' cp (ofE k c (xs.take j)) ∧ (be = b1 ∨ w.heap.size ≤ be) ∧ Chg [] w wr) (fun _ i _ => n - (intOf i).toNat)
  case atStart => exact ⟨0, b1, 0, none, by omega, rfl, rfl, Vec.nil .., .inl rfl, Chg.refl _ _⟩
  case round =>
    obtain ⟨j, be, cp, A', hj, rfl, rfl, hv, hbe, hc⟩ := hrel
    have HV := Lib.hid hv
    have HBE := Lib.hid hbe
    have HC := Lib.hid hc
    have HJ := Lib.hid hj
    clear hv hbe hj
    by_cases hlt : j < n
    · obtain ⟨b, of, rfl⟩ := HS.out.addr (by omega)
      obtain ⟨x, hx⟩ : ∃ x, xs[j]? = some x := ⟨xs[j]'(by rw [HL.out]; exact hlt), List.getElem?_eq_getElem _⟩
      obtain ⟨cs, t, f, hb, _, hpa⟩ := (HS.out.chg hc (by simp)).elem (by omega) hlt (cat_part Ev.len hx)
      obtain ⟨r1, r2⟩ := hpa 0 5 (by omega)
      rw [show ((Ev.enc x).drop 0 |>.take 5).toArray = evc x from rfl, Nat.add_zero] at r2
      rw [Nat.add_zero] at r1
      have g1 : (j : Int) < (n : Int) := by omega
      have g0 : (0 : Int) ≤ (j : Int) := by omega
      have HX := Lib.hid hx
      have HLT := Lib.hid hlt
      have hle := filter_le (ofP k c) xs j
      have HLE := Lib.hid hle
      clear hx hc hpa hlt hle
      have HC1 := Lib.hid (HC.out.alloc (.cells (evc x) 29))
      have he1 : (wr.alloc (.cells (evc x) 29)).heap[wr.heap.size]? = some (.cells (evc x) 29 (0, 0)) := by simp
      have HE1 := Lib.hid he1
      have HV1 := Lib.hid (HV.out.keep ((Chg.refl [] wr).alloc (.cells (evc x) 29)) (by simp))
      clear he1
      go_wp2_with fail
      generalize wr.alloc (.cells (evc x) 29) = w1 at HC1 HE1 HV1 ⊢
      generalize wr.heap.size = pe at HE1 ⊢
      refine (of1_any k c x b1 b2 _ (HB.out.1.keep HC1.out (by simp)) (HB.out.2.keep HC1.out (by simp))).mono ?_
      rintro en w2 ⟨rfl, c2⟩
      have HE2 := Lib.hid (c2.keep HE1.out (by simp))
      have HV2 := Lib.hid (HV1.out.keep c2 (by simp))
      have HC2 := Lib.hid (HC1.out.trans c2)
      have he2 := HE2.out
      have oe2 := old he2
      clear c2 HC1 HE1 HV1 hb r1 r2
      cases hp : ofP k c x
      · have HR := Lib.hid (show ofE k c (xs.take (j + 1)) = ofE k c (xs.take j) by unfold ofE; rw [filter_no HX.out hp])
        clear hp
        go_wp2_with fail
        go_roundw
        case rel => exact ⟨j + 1, be, cp, A', HLT.out, by go_num, by rw [HR.out], by rw [HR.out]; exact HV2.out, HBE.out, HC2.out⟩
        case measure => have := HLT.out; simp [intOf]; omega
      · have HR := Lib.hid (show ofE k c (xs.take (j + 1)) = ofE k c (xs.take j) ++ [x] by unfold ofE; rw [filter_yes HX.out hp])
        clear hp
        go_wp2_with fail
        refine (whole_any x w2).mono ?_
        rintro en w3 ⟨rfl, c3⟩
        have c4 := c3.alloc (.cells (evc x) 29)
        have hsl : Sl (w3.alloc (.cells (evc x) 29)) 5 (some ⟨w3.heap.size, 0, none⟩) 1 (cat Ev.enc [x]) := one_at (C := (evc x)) (x := x) Ev.len rfl (f := (0, 0)) (T := 29) (by simp)
        have hlen := HLE.out
        have hrl : (ofE k c (xs.take j)).length ≤ j := by unfold ofE; exact hlen
        obtain ⟨be', cp2, A3, w4, happ, hv2, hbe2, hc2⟩ := Vec.acc (ty := 22) eltEv (w0 := w) (HC2.out.trans c4) (HV2.out.keep c4 (by simp)) HBE.out HQ.out hsl (c := 1) rfl (by have := HLT.out; omega) (by have := HLT.out; simp only [maxLen]; omega)
        rw [← HR.out] at hv2
        have HL2 := Lib.hid (show (ofE k c (xs.take j)).length + 1 = (ofE k c (xs.take (j + 1))).length by rw [HR.out]; simp)
        have HV3 := Lib.hid hv2
        have HBE2 := Lib.hid hbe2
        have HC3 := Lib.hid hc2
        clear hv2 hbe2 hc2 hsl c3 c4 hlen hrl HE2 HV2 HC2 he2 oe2
        go_wp2_with fail
        go_roundw
        case rel => exact ⟨j + 1, be', cp2, A3, HLT.out, by go_num, by rw [← HL2.out], HV3.out, HBE2.out, HC3.out⟩
        case measure => have := HLT.out; simp [intOf]; omega
    · have : j = n := by have := HJ.out; omega
      subst this
      clear hc hlt
      have e1 : xs.take j = xs := List.take_of_length_le (by rw [HL.out]; exact Nat.le_refl _)
      rw [e1] at HV ⊢
      go_wp2_with fail
      go_ret
      exact ⟨A', cp, rfl, HV.out.sl Ev.len, HC.out⟩

set_option maxHeartbeats 4000000 in
theorem choose_tell {A : Option Addr} {n cap : Nat} (xs : List Ev) (c : Int) (b1 : Nat) (w : World) (h1 : Box w b1 c) (hs : Sl w 5 A n (cat Ev.enc xs)) (hl : xs.length = n) (h5 : n ≤ 100000) :
    Calls Try.prog 16 #[.slice A n cap, .func (.func 17) #[] #[.pointer (some ⟨b1, 0, none⟩)], .func (.func 18) #[] #[]] w (ToldS 1 ue w (tellV c xs)) := by
  have HS := Lib.hid hs
  have HL := Lib.hid hl
  have HB := Lib.hid (show Box w b1 c from h1)
  have HQ := Lib.hid (old h1)
  have gN : (n : Int) ≤ 100000 := by omega
  clear hs hl h1
  go_enter Try.func16, Try.ntmps16
  go_wp2_with fail
  go_loopw [7, 12] (fun o i wr => ∃ (j be cp : Nat) (A' : Option Addr), j ≤ n ∧ i = .int .i64 j ∧ o = .slice A' (tellV c (xs.take j)).length cp ∧ Vec 1 27 ue wr b1 be A' cp (tellV c (xs.take j)) ∧ (be = b1 ∨ w.heap.size ≤ be) ∧ Chg [] w wr) (fun _ i _ => n - (intOf i).toNat)
  case atStart => exact ⟨0, b1, 0, none, by omega, rfl, rfl, Vec.nil .., .inl rfl, Chg.refl _ _⟩
  case round =>
    obtain ⟨j, be, cp, A', hj, rfl, rfl, hv, hbe, hc⟩ := hrel
    have HV := Lib.hid hv
    have HBE := Lib.hid hbe
    have HC := Lib.hid hc
    have HJ := Lib.hid hj
    clear hv hbe hj
    by_cases hlt : j < n
    · obtain ⟨b, of, rfl⟩ := HS.out.addr (by omega)
      obtain ⟨x, hx⟩ : ∃ x, xs[j]? = some x := ⟨xs[j]'(by rw [HL.out]; exact hlt), List.getElem?_eq_getElem _⟩
      obtain ⟨cs, t, f, hb, _, hpa⟩ := (HS.out.chg hc (by simp)).elem (by omega) hlt (cat_part Ev.len hx)
      obtain ⟨r1, r2⟩ := hpa 0 5 (by omega)
      rw [show ((Ev.enc x).drop 0 |>.take 5).toArray = evc x from rfl, Nat.add_zero] at r2
      rw [Nat.add_zero] at r1
      have g1 : (j : Int) < (n : Int) := by omega
      have g0 : (0 : Int) ≤ (j : Int) := by omega
      have HX := Lib.hid hx
      have HLT := Lib.hid hlt
      have hle := filter_le (tellP c) xs j
      have HLE := Lib.hid hle
      clear hx hc hpa hlt hle
      have HC1 := Lib.hid (HC.out.alloc (.cells (evc x) 29))
      have he1 : (wr.alloc (.cells (evc x) 29)).heap[wr.heap.size]? = some (.cells (evc x) 29 (0, 0)) := by simp
      have HE1 := Lib.hid he1
      have HV1 := Lib.hid (HV.out.keep ((Chg.refl [] wr).alloc (.cells (evc x) 29)) (by simp))
      clear he1
      go_wp2_with fail
      generalize wr.alloc (.cells (evc x) 29) = w1 at HC1 HE1 HV1 ⊢
      generalize wr.heap.size = pe at HE1 ⊢
      refine (tells1_any c x b1 _ (HB.out.keep HC1.out (by simp))).mono ?_
      rintro en w2 ⟨rfl, c2⟩
      have HE2 := Lib.hid (c2.keep HE1.out (by simp))
      have HV2 := Lib.hid (HV1.out.keep c2 (by simp))
      have HC2 := Lib.hid (HC1.out.trans c2)
      have he2 := HE2.out
      have oe2 := old he2
      clear c2 HC1 HE1 HV1 hb r1 r2
      cases hp : tellP c x
      · have HR := Lib.hid (show tellV c (xs.take (j + 1)) = tellV c (xs.take j) by unfold tellV; rw [filter_no HX.out hp])
        clear hp
        go_wp2_with fail
        go_roundw
        case rel => exact ⟨j + 1, be, cp, A', HLT.out, by go_num, by rw [HR.out], by rw [HR.out]; exact HV2.out, HBE.out, HC2.out⟩
        case measure => have := HLT.out; simp [intOf]; omega
      · have HR := Lib.hid (show tellV c (xs.take (j + 1)) = tellV c (xs.take j) ++ [x.va] by unfold tellV; rw [filter_yes HX.out hp]; simp)
        clear hp
        go_wp2_with fail
        refine (val_any x w2).mono ?_
        rintro en w3 ⟨rfl, c3⟩
        have c4 := c3.alloc (.cells #[.int .u64 x.va] 27)
        have hsl : Sl (w3.alloc (.cells #[.int .u64 x.va] 27)) 1 (some ⟨w3.heap.size, 0, none⟩) 1 (cat ue [x.va]) := one_at (C := #[.int .u64 x.va]) (x := x.va) ue_len rfl (f := (0, 0)) (T := 27) (by simp)
        have hlen := HLE.out
        have hrl : (tellV c (xs.take j)).length ≤ j := by unfold tellV; rw [List.length_map]; exact hlen
        obtain ⟨be', cp2, A3, w4, happ, hv2, hbe2, hc2⟩ := Vec.acc (ty := 31) eltU (w0 := w) (HC2.out.trans c4) (HV2.out.keep c4 (by simp)) HBE.out HQ.out hsl (c := 1) rfl (by have := HLT.out; omega) (by have := HLT.out; simp only [maxLen]; omega)
        rw [← HR.out] at hv2
        have HL2 := Lib.hid (show (tellV c (xs.take j)).length + 1 = (tellV c (xs.take (j + 1))).length by rw [HR.out]; simp)
        have HV3 := Lib.hid hv2
        have HBE2 := Lib.hid hbe2
        have HC3 := Lib.hid hc2
        clear hv2 hbe2 hc2 hsl c3 c4 hlen hrl HE2 HV2 HC2 he2 oe2
        go_wp2_with fail
        go_roundw
        case rel => exact ⟨j + 1, be', cp2, A3, HLT.out, by go_num, by rw [← HL2.out], HV3.out, HBE2.out, HC3.out⟩
        case measure => have := HLT.out; simp [intOf]; omega
    · have : j = n := by have := HJ.out; omega
      subst this
      clear hc hlt
      have e1 : xs.take j = xs := List.take_of_length_le (by rw [HL.out]; exact Nat.le_refl _)
      rw [e1] at HV ⊢
      go_wp2_with fail
      go_ret
      exact ⟨A', cp, rfl, HV.out.sl ue_len, HC.out⟩

set_option maxHeartbeats 4000000 in
theorem choose_store {A : Option Addr} {n cap : Nat} (xs : List Ev) (s ow : Int) (b1 b2 : Nat) (w : World) (h1 : Box w b1 s) (h2 : Box w b2 ow) (hs : Sl w 5 A n (cat Ev.enc xs)) (hl : xs.length = n) (h5 : n ≤ 100000) :
    Calls Try.prog 16 #[.slice A n cap, .func (.func 20) #[] #[.pointer (some ⟨b1, 0, none⟩), .pointer (some ⟨b2, 0, none⟩)], .func (.func 18) #[] #[]] w (ToldS 1 ue w (storeV s ow xs)) := by
  have HS := Lib.hid hs
  have HL := Lib.hid hl
  have HB := Lib.hid (show Box w b1 s ∧ Box w b2 ow from ⟨h1, h2⟩)
  have HQ := Lib.hid (old h1)
  have gN : (n : Int) ≤ 100000 := by omega
  clear hs hl h1 h2
  go_enter Try.func16, Try.ntmps16
  go_wp2_with fail
  go_loopw [7, 12] (fun o i wr => ∃ (j be cp : Nat) (A' : Option Addr), j ≤ n ∧ i = .int .i64 j ∧ o = .slice A' (storeV s ow (xs.take j)).length cp ∧ Vec 1 27 ue wr b1 be A' cp (storeV s ow (xs.take j)) ∧ (be = b1 ∨ w.heap.size ≤ be) ∧ Chg [] w wr) (fun _ i _ => n - (intOf i).toNat)
  case atStart => exact ⟨0, b1, 0, none, by omega, rfl, rfl, Vec.nil .., .inl rfl, Chg.refl _ _⟩
  case round =>
    obtain ⟨j, be, cp, A', hj, rfl, rfl, hv, hbe, hc⟩ := hrel
    have HV := Lib.hid hv
    have HBE := Lib.hid hbe
    have HC := Lib.hid hc
    have HJ := Lib.hid hj
    clear hv hbe hj
    by_cases hlt : j < n
    · obtain ⟨b, of, rfl⟩ := HS.out.addr (by omega)
      obtain ⟨x, hx⟩ : ∃ x, xs[j]? = some x := ⟨xs[j]'(by rw [HL.out]; exact hlt), List.getElem?_eq_getElem _⟩
      obtain ⟨cs, t, f, hb, _, hpa⟩ := (HS.out.chg hc (by simp)).elem (by omega) hlt (cat_part Ev.len hx)
      obtain ⟨r1, r2⟩ := hpa 0 5 (by omega)
      rw [show ((Ev.enc x).drop 0 |>.take 5).toArray = evc x from rfl, Nat.add_zero] at r2
      rw [Nat.add_zero] at r1
      have g1 : (j : Int) < (n : Int) := by omega
      have g0 : (0 : Int) ≤ (j : Int) := by omega
      have HX := Lib.hid hx
      have HLT := Lib.hid hlt
      have hle := filter_le (storeP s ow) xs j
      have HLE := Lib.hid hle
      clear hx hc hpa hlt hle
      have HC1 := Lib.hid (HC.out.alloc (.cells (evc x) 29))
      have he1 : (wr.alloc (.cells (evc x) 29)).heap[wr.heap.size]? = some (.cells (evc x) 29 (0, 0)) := by simp
      have HE1 := Lib.hid he1
      have HV1 := Lib.hid (HV.out.keep ((Chg.refl [] wr).alloc (.cells (evc x) 29)) (by simp))
      clear he1
      go_wp2_with fail
      generalize wr.alloc (.cells (evc x) 29) = w1 at HC1 HE1 HV1 ⊢
      generalize wr.heap.size = pe at HE1 ⊢
      refine (stores1_any s ow x b1 b2 _ (HB.out.1.keep HC1.out (by simp)) (HB.out.2.keep HC1.out (by simp))).mono ?_
      rintro en w2 ⟨rfl, c2⟩
      have HE2 := Lib.hid (c2.keep HE1.out (by simp))
      have HV2 := Lib.hid (HV1.out.keep c2 (by simp))
      have HC2 := Lib.hid (HC1.out.trans c2)
      have he2 := HE2.out
      have oe2 := old he2
      clear c2 HC1 HE1 HV1 hb r1 r2
      cases hp : storeP s ow x
      · have HR := Lib.hid (show storeV s ow (xs.take (j + 1)) = storeV s ow (xs.take j) by unfold storeV; rw [filter_no HX.out hp])
        clear hp
        go_wp2_with fail
        go_roundw
        case rel => exact ⟨j + 1, be, cp, A', HLT.out, by go_num, by rw [HR.out], by rw [HR.out]; exact HV2.out, HBE.out, HC2.out⟩
        case measure => have := HLT.out; simp [intOf]; omega
      · have HR := Lib.hid (show storeV s ow (xs.take (j + 1)) = storeV s ow (xs.take j) ++ [x.va] by unfold storeV; rw [filter_yes HX.out hp]; simp)
        clear hp
        go_wp2_with fail
        refine (val_any x w2).mono ?_
        rintro en w3 ⟨rfl, c3⟩
        have c4 := c3.alloc (.cells #[.int .u64 x.va] 27)
        have hsl : Sl (w3.alloc (.cells #[.int .u64 x.va] 27)) 1 (some ⟨w3.heap.size, 0, none⟩) 1 (cat ue [x.va]) := one_at (C := #[.int .u64 x.va]) (x := x.va) ue_len rfl (f := (0, 0)) (T := 27) (by simp)
        have hlen := HLE.out
        have hrl : (storeV s ow (xs.take j)).length ≤ j := by unfold storeV; rw [List.length_map]; exact hlen
        obtain ⟨be', cp2, A3, w4, happ, hv2, hbe2, hc2⟩ := Vec.acc (ty := 31) eltU (w0 := w) (HC2.out.trans c4) (HV2.out.keep c4 (by simp)) HBE.out HQ.out hsl (c := 1) rfl (by have := HLT.out; omega) (by have := HLT.out; simp only [maxLen]; omega)
        rw [← HR.out] at hv2
        have HL2 := Lib.hid (show (storeV s ow (xs.take j)).length + 1 = (storeV s ow (xs.take (j + 1))).length by rw [HR.out]; simp)
        have HV3 := Lib.hid hv2
        have HBE2 := Lib.hid hbe2
        have HC3 := Lib.hid hc2
        clear hv2 hbe2 hc2 hsl c3 c4 hlen hrl HE2 HV2 HC2 he2 oe2
        go_wp2_with fail
        go_roundw
        case rel => exact ⟨j + 1, be', cp2, A3, HLT.out, by go_num, by rw [← HL2.out], HV3.out, HBE2.out, HC3.out⟩
        case measure => have := HLT.out; simp [intOf]; omega
    · have : j = n := by have := HJ.out; omega
      subst this
      clear hc hlt
      have e1 : xs.take j = xs := List.take_of_length_le (by rw [HL.out]; exact Nat.le_refl _)
      rw [e1] at HV ⊢
      go_wp2_with fail
      go_ret
      exact ⟨A', cp, rfl, HV.out.sl ue_len, HC.out⟩
end Go.Proofs.Ytfkiejhdfngmnaa
