/- Parts in memory, and Cut: walked. No condition. -/
import Derived.Test.YtfkiejhdfngmnaaTcc
import Derived.Test.YtfkiejhdfngmnaaChecked
import Derived.Laws.LoneSync
import Derived.Lib.SliceRun
import Derived.Deep.RegionHeld3
import Derived.Deep.RegionWith
import Derived.Laws.StructEq
import Derived.ChangeKeysEq
import Derived.BigQuiet
import Derived.BigRegion
import Derived.Deep.QuietTactic
import Derived.WalkKit
import Derived.Deep.Cut
import Derived.Deep.CutBlock
import Derived.Deep.CutRange
import Derived.Deep.DeepCutAuto
import Derived.Deep.RegionLaw
namespace Go.Proofs.Ytfkiejhdfngmnaa
open Go.RowKit
set_option linter.unusedVariables false
set_option maxHeartbeats 1000000

set_option maxRecDepth 100000
attribute [local go_sem ↓] append_appS copy_copS clear_clrS make_mkS cell_row frozen_row heap_drew heap_drewN heap_alloc heap_past heap_setCell heap_putRow loadEv storeEv evc_kd evc_co evc_li evc_wo evc_va
attribute [local go_sem] rowCell_some rowFrozen_some rowHas_some rowIn_some rowPart_full rowPart_lit rowPut_full rowPut_lit rowSet_some size_putRow run_loadS run_storeS run_appS run_copS run_clrS run_mkS loadW_at storeW_at fit_all fit_le one_int one_bool one_pointer one_slice allOne_list putRow_new ne_size1 ne_size2 ne_size3 ne_size4 wideEv evc_size evc_one evc_ne evc_lit evc_z evc_set0 evc_set1 evc_set2 evc_set3 evc_set4 evZ_kd evZ_co evZ_li evZ_wo evZ_va fold_evc
attribute [local simp ↓] heap_drew heap_drewN heap_alloc heap_past heap_setCell heap_putRow
attribute [local simp] rowCell_some rowFrozen_some rowHas_some rowIn_some rowPart_full rowPart_lit rowPut_full rowPut_lit rowSet_some size_putRow fit_all putRow_new ne_size1 ne_size2 ne_size3 ne_size4 evc_size fit_le
attribute [local go_sem ↓] ev_eqIn
/-! ### Parts in memory -/
set_option linter.unusedSectionVars false
theorem cat_re (fs : List Rf) : cat re fs = fs.map Rf.val := by
  induction fs with
  | nil => rfl
  | cons x xs ih => rw [cat_cons, ih]; rfl
theorem sq_re_at {fs : List Rf} {r : List Value} {i : Nat} {x : Rf} (h : fs[i]? = some x) : (sq re fs r)[i]? = some (.slice x.A x.n x.c) := by
  obtain ⟨h1, e1⟩ := List.getElem?_eq_some_iff.1 h
  unfold sq
  rw [cat_re, List.getElem?_toArray, List.getElem?_append_left (by simpa using h1), List.getElem?_map, h]
  rfl
theorem sq_re_set {fs : List Rf} {r : List Value} {i : Nat} (h : i < fs.length) (A : Option Addr) (n c : Nat) : (sq re fs r).setIfInBounds i (.slice A n c) = sq re (fs.set i ⟨A, n, c⟩) r := by
  unfold sq
  rw [cat_re, cat_re]
  simp [h, List.map_set, Rf.val]
theorem sq_re_size (fs : List Rf) (r : List Value) : (sq re fs r).size = fs.length + r.length := by simp [sq, cat_re]
structure CutM (W wr : World) (bo cp s : Nat) (fs : List Rf) (D : List (List Ev)) (P : List Ev) : Prop where
  new : W.heap.size ≤ bo
  bs : bo < s
  sz : s ≤ wr.heap.size
  out : ∃ r, wr.heap[bo]? = some (.cells (sq re fs r) 22 (0, 0)) ∧ fs.length + r.length = cp
  len : fs.length = D.length + 1
  last : ∃ bl A c, fs[D.length]? = some ⟨A, P.length, c⟩ ∧ Vec 5 29 Ev.enc wr bo bl A c P ∧ (bl = bo ∨ s ≤ bl)
  parts : ∀ (i : Nat) (p : List Ev), D[i]? = some p → ∃ r : Rf, fs[i]? = some r ∧ r.n = p.length ∧ Sl wr 5 r.A p.length (cat Ev.enc p) ∧ ∀ a : Addr, r.A = some a → a.block < s ∧ a.block ≠ bo
  chg : Chg [] W wr
section
variable {W wr : World} {bo cp s : Nat} {fs : List Rf} {D : List (List Ev)} {P : List Ev}
theorem CutM.keep {w' : World} (h : CutM W wr bo cp s fs D P) (hc : Chg [] wr w') : CutM W w' bo cp s fs D P where
  new := h.new
  bs := h.bs
  sz := Nat.le_trans h.sz hc.size
  out := by obtain ⟨r, h1, h2⟩ := h.out; exact ⟨r, hc.keep h1 (by simp), h2⟩
  len := h.len
  last := by obtain ⟨bl, A, c, h1, h2, h3⟩ := h.last; exact ⟨bl, A, c, h1, h2.keep hc (by simp), h3⟩
  parts := fun i p hp => by obtain ⟨r, h1, h2, h3, h4⟩ := h.parts i p hp; exact ⟨r, h1, h2, h3.chg hc (by simp), h4⟩
  chg := h.chg.trans hc
theorem CutM.fail (h : CutM W wr bo cp s fs D P) {q b : Nat} (hq : Old wr q) (hqb : q ≠ bo) (hb : wr.heap[b]? = some (.cells #[.slice none 0 0] 22 (0, 0))) (hn : fs.length ≤ 1000000) :
    ∃ (bo' cp' : Nat) (w' : World), appR Try.prog 24 24 #[.slice (some ⟨bo, 0, none⟩) fs.length cp, .slice (some ⟨b, 0, none⟩) 1 1] wr = .ok (.slice (some ⟨bo', 0, none⟩) (fs.length + 1) cp') w' ∧
      CutM W w' bo' cp' w'.heap.size (fs ++ [⟨none, 0, 0⟩]) (D ++ [P]) [] := by
  obtain ⟨r, h1, h2⟩ := h.out
  obtain ⟨bl, A, c, h3, h4, h5⟩ := h.last
  have hv : Vec 1 22 re wr q bo (some ⟨bo, 0, none⟩) cp fs := .inr ⟨Ne.symm hqb, rfl, by omega, r, h1, by omega⟩
  have hs : Sl wr 1 (some ⟨b, 0, none⟩) 1 (cat re [⟨none, 0, 0⟩]) := one_at (C := #[.slice none 0 0]) re_len rfl hb
  obtain ⟨bo', cp', A', w', e1, e2, e3, e4, e5⟩ := hv.app (ty := 24) eltRf hq hs (c := 1) rfl (by omega) (by unfold maxLen; omega)
  obtain ⟨h6, rfl, r', h7, h8⟩ := e2.there (by simp)
  have osz := e4.size
  have hbo : Old w' bo' := old h7
  have hbl : bl ≠ bo → bl ≠ bo' ∧ bl < w'.heap.size := by
    intro hne
    have := (h4.old (old h1)).lt
    refine ⟨?_, by omega⟩
    rcases e3 with e3 | e3
    · rwa [e3]
    · omega
  have hlt : ∀ b', b' < s → b' ≠ bo → b' ≠ bo' := by
    intro b' h9 h10
    rcases e3 with e3 | e3
    · rwa [e3]
    · have := h.sz; omega
  refine ⟨bo', cp', w', e1, ?_⟩
  refine { new := ?_, bs := hbo.lt, sz := Nat.le_refl _, out := ⟨r', h7, by simpa using h8⟩, len := by simp [h.len], last := ?_, parts := ?_, chg := ?_ }
  · rcases e3 with e3 | e3
    · rw [e3]; exact h.new
    · have := h.chg.size; omega
  · refine ⟨bo', none, 0, ?_, Vec.nil .., .inl rfl⟩
    rw [List.length_append, List.length_singleton, ← h.len, List.getElem?_concat_length]; rfl
  · intro i p hp
    by_cases hi : i < D.length
    · rw [List.getElem?_append_left hi] at hp
      obtain ⟨x, h9, h10, h11, h12⟩ := h.parts i p hp
      refine ⟨x, by rw [List.getElem?_append_left (by rw [h.len]; omega)]; exact h9, h10, h11.chg e4 (fun a ha => by simpa using (h12 a ha).2), fun a ha => ⟨?_, hlt _ (h12 a ha).1 (h12 a ha).2⟩⟩
      have := (h12 a ha).1
      have := h.sz
      omega
    · have hi2 : i = D.length := by
        have := (List.getElem?_eq_some_iff.1 hp).1
        simp at this; omega
      subst hi2
      rw [List.getElem?_concat_length] at hp
      cases hp
      refine ⟨_, by rw [List.getElem?_append_left (by rw [h.len]; omega)]; exact h3, rfl, ?_, ?_⟩
      · rcases h4 with ⟨_, hA, _, hP⟩ | ⟨hne, hA, h9⟩
        · subst hP; exact ⟨rfl, .inl rfl⟩
        · subst hA
          exact (Vec.sl Ev.len (.inr ⟨hne, rfl, h9⟩)).chg e4 (by simpa using hne)
      · intro a ha
        rcases h4 with ⟨_, hA, _, hP⟩ | ⟨hne, hA, h9⟩
        · simp only at ha; rw [hA] at ha; cases ha
        · simp only at ha; rw [hA] at ha; cases ha
          exact ⟨(hbl hne).2, (hbl hne).1⟩
  · exact h.chg.trans' e4 (by simpa using h.new)
theorem CutM.more (h : CutM W wr bo cp s fs D P) {A : Option Addr} {c b : Nat} {x : Ev} (hA : fs[D.length]? = some ⟨A, P.length, c⟩) (hb : wr.heap[b]? = some (.cells (evc x) 29 (0, 0))) (hn : P.length ≤ 1000000) :
    ∃ (A' : Option Addr) (c' : Nat) (w' : World), appR Try.prog 22 22 #[.slice A P.length c, .slice (some ⟨b, 0, none⟩) 1 1] wr = .ok (.slice A' (P.length + 1) c') w' ∧
      (∃ r, w'.heap[bo]? = some (.cells (sq re fs r) 22 (0, 0)) ∧ fs.length + r.length = cp) ∧
      CutM W (w'.setCell ⟨bo, D.length, none⟩ (.slice A' (P.length + 1) c')) bo cp s (fs.set D.length ⟨A', P.length + 1, c'⟩) D (P ++ [x]) := by
  obtain ⟨r, h1, h2⟩ := h.out
  obtain ⟨bl, A0, c0, h3, h4, h5⟩ := h.last
  rw [hA] at h3
  cases h3
  have hs : Sl wr 5 (some ⟨b, 0, none⟩) 1 (cat Ev.enc [x]) := one_at (C := evc x) Ev.len rfl hb
  obtain ⟨bl', c', A', w', e1, e2, e3, e4, e5⟩ := h4.app (ty := 22) eltEv (old h1) hs (c := 1) rfl (by omega) (by unfold maxLen; omega)
  obtain ⟨h6, rfl, r', h7, h8⟩ := e2.there (by simp)
  have osz := e4.size
  have h1' := h1
  rw [← e5] at h1'
  have hm : D.length < fs.length := by rw [h.len]; omega
  have hset : Chg [bo] w' (w'.setCell ⟨bo, D.length, none⟩ (.slice (some ⟨bl', 0, none⟩) (P.length + 1) c')) := (Chg.refl [bo] w').setCell _ _ _ (.inl (by simp))
  have hbl : s ≤ bl' := by
    rcases e3 with e3 | e3
    · rcases h5 with h5 | h5
      · rw [e3] at h6; exact absurd h5 h6
      · omega
    · have := h.sz; omega
  refine ⟨_, c', w', e1, ⟨r, h1', h2⟩, ?_⟩
  refine { new := h.new, bs := h.bs, sz := ?_, out := ⟨r, ?_, by simpa using h2⟩, len := by simp [h.len], last := ⟨bl', some ⟨bl', 0, none⟩, c', ?_, ?_, .inr hbl⟩, parts := ?_, chg := ?_ }
  · have := hset.size; have := h.sz; omega
  · rw [heap_setCell, if_pos rfl, h1', rowSet_some, sq_re_set hm]
  · rw [List.getElem?_set_self (by rw [h.len]; omega)]; simp
  · exact e2.keep hset (by simpa using h6)
  · intro i p hp
    obtain ⟨y, h9, h10, h11, h12⟩ := h.parts i p hp
    have hi := (List.getElem?_eq_some_iff.1 hp).1
    refine ⟨y, by rw [List.getElem?_set_ne (by omega)]; exact h9, h10, ?_, h12⟩
    refine (h11.chg e4 (fun a ha => ?_)).chg hset (fun a ha => by simpa using (h12 a ha).2)
    have h13 := h12 a ha
    simp only [List.mem_singleton]
    rcases h5 with h5 | h5
    · rw [h5]; exact h13.2
    · omega
  · have c1 : Chg [] W w' := h.chg.trans' e4 (by
      intro y hy
      simp only [List.mem_singleton] at hy
      have := h.new
      have := h.bs
      refine .inr ?_
      rcases h5 with h5 | h5 <;> omega)
    exact c1.trans' hset (by simpa using h.new)
end

/-- What Cut tells. -/
def ToldC (W : World) (l : List Ev) (e : Ending) (w' : World) : Prop :=
  ∃ (bo cp s : Nat) (fs : List Rf), e = .returned (.slice (some ⟨bo, 0, none⟩) (cutL l).length cp) ∧ CutM W w' bo cp s fs (cutS l).1 (cutS l).2
theorem cutS_le (l : List Ev) : ∀ k, (cutS (l.take k)).1.length + (cutS (l.take k)).2.length ≤ k
  | 0 => by simp [cutS]
  | k + 1 => by
    have ih := cutS_le l k
    cases h : l[k]? with
    | none =>
      have h1 : l.length ≤ k := List.getElem?_eq_none_iff.1 h
      rw [List.take_of_length_le (by omega)]
      rw [List.take_of_length_le h1] at ih
      omega
    | some e =>
      rw [cutS_more h]
      unfold cutStep
      split <;> simp <;> omega
set_option maxHeartbeats 8000000 in
theorem cut_any {A : Option Addr} {n cap : Nat} (xs : List Ev) (w : World) (hs : Sl w 5 A n (cat Ev.enc xs)) (hl : xs.length = n) (h5 : n ≤ 100000) :
    Calls Try.prog 6 #[.slice A n cap] w (ToldC w xs) := by
  have HS := Lib.hid hs
  have HL := Lib.hid hl
  have gN : (n : Int) ≤ 100000 := by omega
  have h1 : (w.alloc (.cells #[.slice none 0 0] 22)).heap[w.heap.size]? = some (.cells #[.slice none 0 0] 22 (0, 0)) := (MapKept.heap_alloc w _).1
  have HM := Lib.hid (show CutM w (w.alloc (.cells #[.slice none 0 0] 22)) w.heap.size 1 (w.heap.size + 1) [⟨none, 0, 0⟩] (cutS (xs.take 0)).1 (cutS (xs.take 0)).2 from
    { new := Nat.le_refl _, bs := by omega, sz := by simp, out := ⟨[], h1, rfl⟩, len := rfl, last := ⟨w.heap.size, none, 0, rfl, Vec.nil .., .inl rfl⟩, parts := fun i p hp => by simp [cutS] at hp, chg := (Chg.refl _ _).alloc _ })
  clear hs hl h1
  go_enter Try.func6, Try.ntmps6
  go_wp2_with fail
  go_loopw [3, 10] (fun o i wr => ∃ (j bo cp s : Nat) (fs : List Rf), j ≤ n ∧ i = .int .i64 j ∧ o = .slice (some ⟨bo, 0, none⟩) ((cutS (xs.take j)).1.length + 1) cp ∧ CutM w wr bo cp s fs (cutS (xs.take j)).1 (cutS (xs.take j)).2) (fun _ i _ => n - (intOf i).toNat)
  case atStart => exact ⟨0, _, _, _, _, by omega, rfl, rfl, HM.out⟩
  case round =>
    obtain ⟨j, bo, cp, s, fs, hj, rfl, rfl, hm⟩ := hrel
    clear HM
    have HM := Lib.hid hm
    have HJ := Lib.hid hj
    clear hm hj
    by_cases hlt : j < n
    · obtain ⟨b, of, rfl⟩ := HS.out.addr (by omega)
      obtain ⟨x, hx⟩ : ∃ x, xs[j]? = some x := ⟨xs[j]'(by rw [HL.out]; exact hlt), List.getElem?_eq_getElem _⟩
      obtain ⟨cs, t, f, hb, _, hpa⟩ := (HS.out.chg HM.out.chg (by simp)).elem (by omega) hlt (cat_part Ev.len hx)
      obtain ⟨r1, r2⟩ := hpa 0 5 (by omega)
      rw [show ((Ev.enc x).drop 0 |>.take 5).toArray = evc x from rfl, Nat.add_zero] at r2
      rw [Nat.add_zero] at r1
      have g1 : (j : Int) < (n : Int) := by omega
      have g0 : (0 : Int) ≤ (j : Int) := by omega
      have HX := Lib.hid hx
      have HLT := Lib.hid hlt
      have HLE := Lib.hid (cutS_le xs j)
      have he1 : (wr.alloc (.cells (evc x) 29)).heap[wr.heap.size]? = some (.cells (evc x) 29 (0, 0)) := by simp
      have HE := Lib.hid he1
      have HM1 := Lib.hid (HM.out.keep ((Chg.refl [] wr).alloc (.cells (evc x) 29)))
      have HNE := Lib.hid (show wr.heap.size ≠ bo by have := HM.out.bs; have := HM.out.sz; omega)
      have HS1 := Lib.hid (cutS_more HX.out)
      clear hx hpa hlt he1 HM
      by_cases hk : x.kd = 11
      · have HST := Lib.hid (show cutS (xs.take (j + 1)) = ((cutS (xs.take j)).1 ++ [(cutS (xs.take j)).2], []) by rw [HS1.out]; simp [cutStep, hk])
        have tk : (x.kd == 11) = true := by simpa using hk
        clear HS1 hk
        go_upto_region 5 with fail
        generalize wr.alloc (.cells (evc x) 29) = w1 at HE HM1 ⊢
        generalize wr.heap.size = pe at HE HNE ⊢
        have he := HE.out
        have c4 := (Chg.refl [] w1).alloc (.cells #[.slice none 0 0] 22)
        have hb2 : (w1.alloc (.cells #[.slice none 0 0] 22)).heap[w1.heap.size]? = some (.cells #[.slice none 0 0] 22 (0, 0)) := (MapKept.heap_alloc w1 _).1
        obtain ⟨bo', cp', w4, happ, hm2⟩ := (HM1.out.keep c4).fail (q := pe) ((old HE.out).chg c4) HNE.out hb2 (by have := HLE.out; have := HLT.out; rw [HM1.out.len]; omega)
        rw [HM1.out.len] at happ
        have HM2 := Lib.hid hm2
        clear hm2 c4 hb2 HM1 hb r1 r2
        go_wp2_with fail
        go_roundw
        case rel => exact ⟨j + 1, bo', cp', _, _, HLT.out, by go_num, by rw [HST.out]; simp, by rw [HST.out]; exact HM2.out⟩
        case measure => have := HLT.out; simp [intOf]; omega
      · have HST := Lib.hid (show cutS (xs.take (j + 1)) = ((cutS (xs.take j)).1, (cutS (xs.take j)).2 ++ [x]) by rw [HS1.out]; simp [cutStep, hk])
        have tk : (x.kd == 11) = false := by simpa using hk
        clear HS1 hk
        go_upto_region 5 with fail
        generalize wr.alloc (.cells (evc x) 29) = w1 at HE HM1 ⊢
        generalize wr.heap.size = pe at HE HNE ⊢
        have he := HE.out
        have hld := HLE.out
        have hlt2 := HLT.out
        generalize hD : (cutS (xs.take j)).1 = D at HM1 HST hld ⊢
        generalize hP : (cutS (xs.take j)).2 = P at HM1 HST hld ⊢
        obtain ⟨r, ho, hr⟩ := HM1.out.out
        obtain ⟨bl, A1, c1, hA, _, _⟩ := HM1.out.last
        have hat := sq_re_at (r := r) hA
        have gD : (D.length : Int) ≤ 100000 := by omega
        have gD0 : (0 : Int) ≤ (D.length : Int) := by omega
        have c4 := ((Chg.refl [] w1).alloc (.cells (evc x) 29)).drew
        have hb2 : (w1.alloc (.cells (evc x) 29)).drew.heap[w1.heap.size]? = some (.cells (evc x) 29 (0, 0)) := (MapKept.heap_alloc w1 _).1
        obtain ⟨A2, c2, w5, happ, ⟨r', ho5, hr'⟩, hm2⟩ := (HM1.out.keep c4).more hA hb2 (by omega)
        have HM2 := Lib.hid hm2
        have hat' := sq_re_at (r := r') hA
        clear hm2 c4 hb2 HM1 hb r1 r2 hr hr' hD hP hld hlt2 hA
        go_upto_region 8 with fail
        go_region
        all_goals go_wp2_with fail
        all_goals go_roundw
        case rel => exact ⟨j + 1, bo, cp, _, _, HLT.out, by go_num, by rw [HST.out], by rw [HST.out]; exact HM2.out⟩
        case measure => have := HLT.out; simp [intOf]; omega
    · have : j = n := by have := HJ.out; omega
      subst this
      clear hlt
      have e1 : xs.take j = xs := List.take_of_length_le (by rw [HL.out]; exact Nat.le_refl _)
      rw [e1] at HM ⊢
      go_wp2_with fail
      go_ret
      exact ⟨_, _, _, _, by simp [cutL], HM.out⟩
end Go.Proofs.Ytfkiejhdfngmnaa
