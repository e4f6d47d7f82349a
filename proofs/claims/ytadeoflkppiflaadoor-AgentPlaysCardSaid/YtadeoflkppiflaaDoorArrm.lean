/- Slots of sets and ways: which one a line has, which one it would get, whose line may go. No condition. -/
import Derived.Test.YtadeoflkppiflaaDoorWpqm
namespace Go.Proofs.YtadeoflkppiflaaDoor
open Go.RowKit
set_option linter.unusedVariables false

/-- A slot: a line, or nothing. -/
structure Slt where
  st : Int
  li : Int
  l : List Int
  us : Int
  h : l.length = 8
def Slt.enc (s : Slt) : List Value := .int .i64 s.st :: .int .i64 s.li :: (s.l.map (Value.int .u64) ++ [.int .i64 s.us])
theorem Slt.len (s : Slt) : (Slt.enc s).length = 11 := by simp [Slt.enc, s.h]
theorem Slt.one (s : Slt) : ∀ v ∈ Slt.enc s, v.oneCell' = true := by
  intro v hv
  simp only [Slt.enc, List.mem_cons, List.mem_append, List.mem_map, List.not_mem_nil, or_false] at hv
  rcases hv with rfl | rfl | ⟨x, _, rfl⟩ | rfl <;> rfl
/-- No line. -/
def sltZ : Slt := ⟨0, 0, [0, 0, 0, 0, 0, 0, 0, 0], 0, rfl⟩
def sltV : Value := .agg (.int .i64 0 :: .int .i64 0 :: (List.replicate 8 (.int .u64 0) ++ [.int .i64 0])).toArray
theorem sltV_size : sltV.cells.size = 11 := rfl
theorem sltV_one : ∀ v ∈ sltV.cells, v.oneCell' = true := by intro v hv; simp [sltV, Value.cells] at hv; rcases hv with rfl | rfl | rfl <;> rfl
/-- Its cells. -/
def slc (s : Slt) : Array Value := (Slt.enc s).toArray
theorem slc_size (s : Slt) : (slc s).size = 11 := by simp [slc, Slt.len]
theorem slc_one (s : Slt) : allOne (slc s) := allOne_list _ (List.all_eq_true.2 (Slt.one s))
theorem slc_st (s : Slt) : (slc s)[0]? = some (.int .i64 s.st) := by simp [slc, Slt.enc]
theorem slc_li (s : Slt) : (slc s)[1]? = some (.int .i64 s.li) := by simp [slc, Slt.enc]
theorem enc_us (s : Slt) : (Slt.enc s)[10]? = some (.int .i64 s.us) := by
  have : s.l.length = 8 := s.h
  unfold Slt.enc
  rw [List.getElem?_cons_succ, List.getElem?_cons_succ, List.getElem?_append_right (by simp [this])]
  simp [this]
theorem slc_us (s : Slt) : (slc s)[10]? = some (.int .i64 s.us) := by rw [slc, List.getElem?_toArray, enc_us]
theorem enc_line (s : Slt) : ((Slt.enc s).drop 2).take 8 = s.l.map (Value.int .u64) := by
  have : s.l.length = 8 := s.h
  unfold Slt.enc
  rw [List.drop_succ_cons, List.drop_succ_cons, List.drop_zero, List.take_append_of_le_length (by simp [this]), List.take_of_length_le (by simp [this])]
theorem slc_part (s : Slt) (t : TypeId) (f : Nat × Nat) : rowPart (some (.cells (slc s) t f)) 2 8 = vs s.l := by
  rw [rowPart_some]
  unfold slc
  rw [List.toList_toArray, enc_line]; rfl
theorem slc_in (s : Slt) (t : TypeId) (f : Nat × Nat) : rowIn (some (.cells (slc s) t f)) 2 8 = true := by
  rw [rowIn_some, slc_size]; exact decide_eq_true (show 2 + 8 ≤ 11 by omega)
theorem slc_made (st li us : Int) (l : List Int) (h : l.length = 8) : (#[.int .i64 st, .int .i64 li] : Array Value) ++ vs l ++ #[.int .i64 us] = slc ⟨st, li, l, us, h⟩ := by simp [slc, Slt.enc, vs]
theorem slcZ : slc sltZ = #[.int .i64 0, .int .i64 0, .int .u64 0, .int .u64 0, .int .u64 0, .int .u64 0, .int .u64 0, .int .u64 0, .int .u64 0, .int .u64 0, .int .i64 0] := rfl

theorem fold_slt (st li z : Int) (l : List Int) (h : l.length = 8) : Array.foldl (fun cs y => cs.setIfInBounds (2 + y.snd) y.fst) #[.int .i64 st, .int .i64 li, .int .u64 0, .int .u64 0, .int .u64 0, .int .u64 0, .int .u64 0, .int .u64 0, .int .u64 0, .int .u64 0, .int .i64 z] (vs l).zipIdx 0 8 = slc ⟨st, li, l, z, h⟩ := by
  rw [fold_put _ _ 2 8 (by rw [vs_size, h]) (by simp)]
  simp [splice, vs, slc, Slt.enc, h]
theorem fold_slc (C : Array Value) (s : Slt) (h : C.size = 11) : Array.foldl (fun cs y => cs.setIfInBounds y.snd y.fst) C (slc s).zipIdx 0 11 = slc s := fold_all _ _ _ (slc_size s) h
theorem slc_set_us (s : Slt) (u : Int) : (slc s).setIfInBounds 10 (.int .i64 u) = slc ⟨s.st, s.li, s.l, u, s.h⟩ := by
  have h8 : s.l.length = 8 := s.h
  unfold slc Slt.enc
  rw [List.setIfInBounds_toArray, List.set_cons_succ, List.set_cons_succ, List.set_append_right _ _ (by simp [h8])]
  simp [h8]

/-! ### The first that is so -/
def hit (p : Slt → Bool) (ys : List Slt) : Int := if ys.findIdx p < ys.length then (ys.findIdx p : Nat) else -1
theorem findIdx_hit {α : Type} {p : α → Bool} {ys : List α} {k : Nat} {y : α} (h : ys[k]? = some y) (hp : p y = true) (hb : ∀ x ∈ ys.take k, p x = false) : ys.findIdx p = k := by
  obtain ⟨hk, rfl⟩ := List.getElem?_eq_some_iff.1 h
  refine (List.findIdx_eq hk).2 ⟨hp, fun j hj => ?_⟩
  have := hb ys[j] (List.mem_take_iff_getElem.2 ⟨j, by omega, rfl⟩)
  simpa using this
theorem hit_at {p : Slt → Bool} {ys : List Slt} {k : Nat} {y : Slt} (h : ys[k]? = some y) (hp : p y = true) (hb : ∀ x ∈ ys.take k, p x = false) : hit p ys = (k : Int) := by
  have hk := (List.getElem?_eq_some_iff.1 h).1
  unfold hit
  rw [findIdx_hit h hp hb, if_pos hk]
theorem hit_none {p : Slt → Bool} {ys : List Slt} (h : ∀ x ∈ ys, p x = false) : hit p ys = -1 := by
  unfold hit
  rw [if_neg]
  rw [List.findIdx_eq_length.2 (by intro x hx; simpa using h x hx)]
  omega
/-- Either one is, and all ahead of it are not, or none is. -/
theorem hit_or (p : Slt → Bool) (ys : List Slt) : (∃ (k : Nat) (y : Slt), hit p ys = (k : Int) ∧ ys.findIdx p = k ∧ ys[k]? = some y ∧ p y = true ∧ k < ys.length ∧ ∀ x ∈ ys.take k, p x = false) ∨ (hit p ys = -1 ∧ ys.findIdx p = ys.length ∧ ∀ x ∈ ys, p x = false) := by
  by_cases h : ys.findIdx p < ys.length
  · refine .inl ⟨ys.findIdx p, ys[ys.findIdx p], by unfold hit; rw [if_pos h], rfl, List.getElem?_eq_getElem h, List.findIdx_getElem, h, ?_⟩
    intro x hx
    obtain ⟨j, hj, rfl⟩ := List.mem_take_iff_getElem.1 hx
    have := List.not_of_lt_findIdx (p := p) (xs := ys) (i := j) (by omega)
    simpa using this
  · have e : ys.findIdx p = ys.length := Nat.le_antisymm List.findIdx_le_length (by omega)
    refine .inr ⟨by unfold hit; rw [if_neg h], e, ?_⟩
    have := List.findIdx_eq_length.1 e
    intro x hx
    simpa using this x hx
/-- This slot has that line; this one is empty. -/
def pLine (li : Int) (x : Slt) : Bool := x.st != 0 && x.li == li
def pFree (x : Slt) : Bool := x.st == 0
theorem pLine_yes {li : Int} {x : Slt} (h : pLine li x = true) : x.st ≠ 0 ∧ x.li = li := by simpa [pLine] using h

/-! ### Whose line may go -/
def atRest (st : Int) : Bool := decide (1 ≤ st) && decide (st ≤ 3)
def eldStep (a : Int × Int) (s : Slt) : Int × Int := if atRest s.st && (decide (a.1 < 0) || decide (s.us < a.2)) then (s.li, s.us) else a
def eldS (ys : List Slt) : Int × Int := ys.foldl eldStep (-1, 0)
def eld (ys : List Slt) : Int := (eldS ys).1
theorem eldS_nil : eldS [] = (-1, 0) := rfl
theorem eldS_take {ys : List Slt} {k : Nat} {y : Slt} (h : ys[k]? = some y) : eldS (ys.take (k + 1)) = eldStep (eldS (ys.take k)) y := by
  obtain ⟨hk, rfl⟩ := List.getElem?_eq_some_iff.1 h
  unfold eldS
  rw [List.take_succ_eq_append_getElem hk, List.foldl_append]; rfl

/-! ### Sets -/
def setOf (S : Nat) (li : Int) : Nat := li.toNat % S
/-- The slots of a set. -/
def seg (W : Nat) (xs : List Slt) (t : Nat) : List Slt := (xs.drop (t * W)).take W
theorem seg_length {S W : Nat} {xs : List Slt} (hx : xs.length = S * W) {t : Nat} (ht : t < S) : (seg W xs t).length = W := by
  have : t * W + W ≤ S * W := mul_lt_of ht
  simp [seg]; omega
theorem seg_get {W : Nat} (xs : List Slt) (t k : Nat) (hk : k < W) : (seg W xs t)[k]? = xs[t * W + k]? := by
  unfold seg
  rw [List.getElem?_take_of_lt hk, List.getElem?_drop]
/-- There are so many sets and ways, so many slots, each line in its own set. -/
structure Good (S W : Nat) (xs : List Slt) : Prop where
  sets : S = 1 ∨ S = 2 ∨ S = 4 ∨ S = 8
  way1 : 1 ≤ W
  way8 : W ≤ 8
  len : xs.length = S * W
  home : ∀ i x, xs[i]? = some x → x.st ≠ 0 → 0 ≤ x.li ∧ i / W = setOf S x.li
theorem Good.spos {S W : Nat} {xs : List Slt} (h : Good S W xs) : 0 < S := by have := h.sets; omega
theorem Good.s8 {S W : Nat} {xs : List Slt} (h : Good S W xs) : S ≤ 8 := by have := h.sets; omega
theorem Good.set_lt {S W : Nat} {xs : List Slt} (h : Good S W xs) (li : Int) : setOf S li < S := Nat.mod_lt _ h.spos
theorem Good.len64 {S W : Nat} {xs : List Slt} (h : Good S W xs) : xs.length ≤ 64 := by
  rw [h.len]; exact Nat.mul_le_mul h.s8 h.way8
theorem Good.seg_len {S W : Nat} {xs : List Slt} (h : Good S W xs) (li : Int) : (seg W xs (setOf S li)).length = W := seg_length h.len (h.set_lt li)
theorem Good.fit {S W : Nat} {xs : List Slt} (h : Good S W xs) (li : Int) : setOf S li * W + W ≤ S * W := mul_lt_of (h.set_lt li)
theorem div_of {i t k W : Nat} (hk : k < W) (h : i = t * W + k) : i / W = t := by
  subst h
  rw [Nat.mul_comm, Nat.mul_add_div (by omega), Nat.div_eq_of_lt hk, Nat.add_zero]
theorem mod_of {i t W : Nat} (hw : 0 < W) (h : i / W = t) : ∃ k, k < W ∧ i = t * W + k := by
  refine ⟨i % W, Nat.mod_lt _ hw, ?_⟩
  subst h
  have := Nat.div_add_mod i W
  rw [Nat.mul_comm] at this
  omega
/-- Where a line stands among all slots is where it stands in its set. -/
theorem Good.where {S W : Nat} {xs : List Slt} (h : Good S W xs) (li : Int) :
    (∃ (k : Nat) (y : Slt), (seg W xs (setOf S li)).findIdx (pLine li) = k ∧ xs.findIdx (pLine li) = setOf S li * W + k ∧ k < W ∧ xs[setOf S li * W + k]? = some y ∧ y.st ≠ 0 ∧ y.li = li ∧ 0 ≤ li ∧ hit (pLine li) (seg W xs (setOf S li)) = (k : Int) ∧ hit (pLine li) xs = ((setOf S li * W + k : Nat) : Int) ∧ setOf S li * W + k < xs.length) ∨
    (hit (pLine li) (seg W xs (setOf S li)) = -1 ∧ hit (pLine li) xs = -1 ∧ xs.findIdx (pLine li) = xs.length ∧ ∀ x ∈ xs, pLine li x = false) := by
  rcases hit_or (pLine li) xs with ⟨i, y, e1, e2, e3, e4, e5, e6⟩ | ⟨e1, e2, e3⟩
  · obtain ⟨h1, h2⟩ := pLine_yes e4
    obtain ⟨h3, h4⟩ := h.home i y e3 h1
    rw [h2] at h3 h4
    obtain ⟨k, hk, rfl⟩ := mod_of (by have := h.way1; omega) h4
    have hs : (seg W xs (setOf S li))[k]? = some y := by rw [seg_get _ _ _ hk]; exact e3
    have hb : ∀ x ∈ (seg W xs (setOf S li)).take k, pLine li x = false := by
      intro x hx
      obtain ⟨j, hj, rfl⟩ := List.mem_take_iff_getElem.1 hx
      have hjk : j < k := by omega
      have hjl : j < (seg W xs (setOf S li)).length := by omega
      have hxj : (seg W xs (setOf S li))[j]? = some (seg W xs (setOf S li))[j] := List.getElem?_eq_getElem hjl
      rw [seg_get _ _ _ (by omega)] at hxj
      obtain ⟨hl, he⟩ := List.getElem?_eq_some_iff.1 hxj
      exact e6 _ (List.mem_take_iff_getElem.2 ⟨setOf S li * W + j, by omega, he⟩)
    exact .inl ⟨k, y, findIdx_hit hs e4 hb, e2, hk, e3, h1, h2, h3, hit_at hs e4 hb, e1, e5⟩
  · refine .inr ⟨hit_none ?_, e1, e2, e3⟩
    intro x hx
    exact e3 x (List.mem_of_mem_drop (List.mem_of_mem_take hx))
/-- The first empty slot of a line's set. -/
theorem Good.room {S W : Nat} {xs : List Slt} (h : Good S W xs) (li : Int) :
    (∃ (k : Nat) (y : Slt), (seg W xs (setOf S li)).findIdx pFree = k ∧ k < W ∧ xs[setOf S li * W + k]? = some y ∧ y.st = 0 ∧ hit pFree (seg W xs (setOf S li)) = (k : Int) ∧ setOf S li * W + k < xs.length ∧ ∀ x ∈ (seg W xs (setOf S li)).take k, pFree x = false) ∨
    (hit pFree (seg W xs (setOf S li)) = -1 ∧ (seg W xs (setOf S li)).findIdx pFree = W ∧ ∀ x ∈ seg W xs (setOf S li), x.st ≠ 0) := by
  have hl := h.seg_len li
  rcases hit_or pFree (seg W xs (setOf S li)) with ⟨k, y, e1, e2, e3, e4, e5, e6⟩ | ⟨e1, e2, e3⟩
  · have hk : k < W := by omega
    rw [seg_get _ _ _ hk] at e3
    exact .inl ⟨k, y, e2, hk, e3, by simpa [pFree] using e4, e1, (List.getElem?_eq_some_iff.1 e3).1, e6⟩
  · refine .inr ⟨e1, by omega, fun x hx => ?_⟩
    simpa [pFree] using e3 x hx

/-! ### What each call answers, and leaves -/
/-- Where a line stands, or would. -/
def place (S W : Nat) (xs : List Slt) (li : Int) : Nat :=
  if xs.findIdx (pLine li) < xs.length then xs.findIdx (pLine li) else if (seg W xs (setOf S li)).findIdx pFree < W then setOf S li * W + (seg W xs (setOf S li)).findIdx pFree else xs.length
/-- The first empty slot of a line's set, among all; -1, if there is none. -/
def freeI (S W : Nat) (xs : List Slt) (li : Int) : Int := if (seg W xs (setOf S li)).findIdx pFree < W then ((setOf S li * W + (seg W xs (setOf S li)).findIdx pFree : Nat) : Int) else -1
def badSet (li st : Int) : Prop := li < 0 ∨ st < 1 ∨ 9 < st
instance (li st : Int) : Decidable (badSet li st) := inferInstanceAs (Decidable (_ ∨ _ ∨ _))
def setVal (S W : Nat) (xs : List Slt) (li st : Int) : Int := if badSet li st then 1 else if place S W xs li < xs.length then 0 else 13
def setXs (S W : Nat) (xs : List Slt) (u li st : Int) (l : List Int) (h : l.length = 8) : List Slt := if badSet li st then xs else xs.set (place S W xs li) ⟨st, li, l, u + 1, h⟩
def setU (S W : Nat) (xs : List Slt) (u li st : Int) : Int := if badSet li st then u else if place S W xs li < xs.length then u + 1 else u
def Slt.use (x : Slt) (u : Int) : Slt := ⟨x.st, x.li, x.l, u, x.h⟩
def touchXs (xs : List Slt) (u li : Int) : List Slt := match xs[xs.findIdx (pLine li)]? with | some x => xs.set (xs.findIdx (pLine li)) (x.use (u + 1)) | none => xs
def touchU (xs : List Slt) (u li : Int) : Int := if xs.findIdx (pLine li) < xs.length then u + 1 else u
def dropVal (xs : List Slt) (li : Int) : Bool := decide (xs.findIdx (pLine li) < xs.length)
def dropXs (xs : List Slt) (li : Int) : List Slt := xs.set (xs.findIdx (pLine li)) sltZ
def findVal (xs : List Slt) (li : Int) : Slt := match xs[xs.findIdx (pLine li)]? with | some x => x | none => sltZ
def roomFree (S W : Nat) (xs : List Slt) (li : Int) : Bool := decide (0 ≤ li) && decide ((seg W xs (setOf S li)).findIdx pFree < W)
def roomVic (S W : Nat) (xs : List Slt) (li : Int) : Int := if li < 0 then -1 else if (seg W xs (setOf S li)).findIdx pFree < W then -1 else eld (seg W xs (setOf S li))
/-- Those that are not empty. -/
def live (xs : List Slt) : List Slt := xs.filter (fun x => x.st != 0)

theorem set_none {α : Type} (xs : List α) (a : α) : xs.set xs.length a = xs := List.set_eq_of_length_le (Nat.le_refl _)
theorem Good.put {S W : Nat} {xs : List Slt} (h : Good S W xs) (k : Nat) (x : Slt) (hx : x.st ≠ 0 → 0 ≤ x.li ∧ k / W = setOf S x.li) : Good S W (xs.set k x) := by
  refine ⟨h.sets, h.way1, h.way8, by rw [List.length_set, h.len], fun i y hy h0 => ?_⟩
  rw [List.getElem?_set] at hy
  split at hy
  · rename_i e
    subst e
    split at hy
    · injection hy with hy; subst hy; exact hx h0
    · cases hy
  · exact h.home i y hy h0
theorem Good.setXs {S W : Nat} {xs : List Slt} (h : Good S W xs) (u li st : Int) (l : List Int) (hl : l.length = 8) : Good S W (setXs S W xs u li st l hl) := by
  unfold Go.Proofs.YtadeoflkppiflaaDoor.setXs
  split
  · exact h
  · rename_i hb
    have h0 : 0 ≤ li := by unfold badSet at hb; omega
    unfold place
    rcases h.where li with ⟨k, y, e1, e2, e3, e4, e5, e6, e7, e8, e9, e10⟩ | ⟨e1, e2, e3, e4⟩
    · rw [if_pos (by omega), e2]
      exact h.put _ _ (fun _ => ⟨h0, div_of e3 rfl⟩)
    · rw [if_neg (by omega)]
      split
      · rename_i h2
        exact h.put _ _ (fun _ => ⟨h0, div_of h2 rfl⟩)
      · rw [set_none]; exact h
theorem Good.touchXs {S W : Nat} {xs : List Slt} (h : Good S W xs) (u li : Int) : Good S W (touchXs xs u li) := by
  unfold Go.Proofs.YtadeoflkppiflaaDoor.touchXs
  split
  · rename_i x hx
    exact h.put _ _ (fun h0 => h.home _ x hx h0)
  · exact h
theorem Good.dropXs {S W : Nat} {xs : List Slt} (h : Good S W xs) (li : Int) : Good S W (dropXs xs li) := h.put _ _ (fun h0 => absurd rfl h0)
theorem setU_le {S W : Nat} {xs : List Slt} {u li st : Int} : u ≤ setU S W xs u li st ∧ setU S W xs u li st ≤ u + 1 := by
  unfold setU; split <;> (try split) <;> omega
theorem touchU_le {xs : List Slt} {u li : Int} : u ≤ touchU xs u li ∧ touchU xs u li ≤ u + 1 := by
  unfold touchU; split <;> omega
/-- Slots of nothing. -/
theorem Good.new {S W : Nat} (h1 : S = 1 ∨ S = 2 ∨ S = 4 ∨ S = 8) (h2 : 1 ≤ W) (h3 : W ≤ 8) : Good S W (List.replicate (S * W) sltZ) := by
  refine ⟨h1, h2, h3, by simp, fun i x hx h0 => ?_⟩
  rw [List.getElem?_replicate] at hx
  split at hx
  · injection hx with hx; subst hx; exact absurd rfl h0
  · cases hx
theorem live_take {xs : List Slt} {k : Nat} {x : Slt} (h : xs[k]? = some x) : live (xs.take (k + 1)) = live (xs.take k) ++ (if x.st = 0 then [] else [x]) := by
  obtain ⟨hk, rfl⟩ := List.getElem?_eq_some_iff.1 h
  unfold live
  rw [List.take_succ_eq_append_getElem hk, List.filter_append]
  congr 1
  split <;> simp [*]
theorem live_le (xs : List Slt) : (live xs).length ≤ xs.length := List.length_filter_le _ _
theorem mem_live {xs : List Slt} {x : Slt} : x ∈ live xs ↔ x ∈ xs ∧ x.st ≠ 0 := by simp [live]

/-! ### Slot k in its block -/
section
variable {xs : List Slt} {k : Nat} {x : Slt} (h : xs[k]? = some x) (r : List Value) (t : TypeId) (f : Nat × Nat)
include h
theorem slt_row : rowPart (some (.cells (sq Slt.enc xs r) t f)) (k * 11) 11 = slc x := by
  have := rowPart_sq Slt.len h r t f 0 11 (by omega)
  rw [Nat.add_zero] at this
  rw [this]
  simp [slc, Slt.len, List.take_of_length_le]
theorem slt_rowIn : rowIn (some (.cells (sq Slt.enc xs r) t f)) (k * 11) 11 = true := rowIn_sq Slt.len (List.getElem?_eq_some_iff.1 h).1 r t f 0 11 (by omega)
theorem slt_st : (sq Slt.enc xs r)[k * 11]? = some (.int .i64 x.st) := by
  have := sq_cell Slt.len h r 0 (by omega)
  rw [Nat.add_zero] at this
  rw [this]; rfl
theorem slt_li : (sq Slt.enc xs r)[k * 11 + 1]? = some (.int .i64 x.li) := by
  rw [sq_cell Slt.len h r 1 (by omega)]; rfl
theorem slt_us : (sq Slt.enc xs r)[k * 11 + 10]? = some (.int .i64 x.us) := by
  rw [sq_cell Slt.len h r 10 (by omega), enc_us]
theorem slt_line : rowPart (some (.cells (sq Slt.enc xs r) t f)) (k * 11 + 2) 8 = vs x.l := by
  rw [rowPart_sq Slt.len h r t f 2 8 (by omega), enc_line]; rfl
theorem slt_lineIn : rowIn (some (.cells (sq Slt.enc xs r) t f)) (k * 11 + 2) 8 = true := rowIn_sq Slt.len (List.getElem?_eq_some_iff.1 h).1 r t f 2 8 (by omega)
theorem slt_has : rowHas (some (.cells (sq Slt.enc xs r) t (0, 0))) (k * 11) 11 = true := by
  have hk := (List.getElem?_eq_some_iff.1 h).1
  have := mul_lt_of (k := 11) hk
  rw [rowHas_some, sq_size Slt.len]
  exact decide_eq_true (show _ ≤ _ by omega)
theorem slt_put (y : Slt) : rowPut (some (.cells (sq Slt.enc xs r) t f)) (k * 11) (slc y) = some (.cells (sq Slt.enc (xs.set k y) r) t f) := by
  have hk := (List.getElem?_eq_some_iff.1 h).1
  have := mul_lt_of (k := 11) hk
  have e : splice xs k [y] = xs.set k y := by unfold splice; rw [List.set_eq_take_append_cons_drop, if_pos hk]; simp
  rw [rowPut_some, sq_toList, ← e]
  unfold slc sq
  rw [List.toList_toArray, splice_append _ _ _ _ (by rw [Slt.len, cat_length Slt.len]; omega)]
  have := cat_splice Slt.len xs [y] k
  rw [cat_one] at this
  rw [this]
theorem slt_use (u : Int) : (sq Slt.enc xs r).setIfInBounds (k * 11 + 10) (.int .i64 u) = sq Slt.enc (xs.set k (x.use u)) r := by
  have hk := (List.getElem?_eq_some_iff.1 h).1
  have hm := mul_lt_of (k := 11) hk
  have h8 : x.l.length = 8 := x.h
  have e2 : (Slt.enc x).set 10 (.int .i64 u) = Slt.enc (x.use u) := by
    unfold Slt.enc Slt.use
    rw [List.set_cons_succ, List.set_cons_succ, List.set_append_right _ _ (by simp [h8])]
    simp [h8]
  have hl := cat_length Slt.len xs
  have ho := slt_put h r 3 (0, 0) (x.use u)
  rw [rowPut_some] at ho
  injection ho with ho
  injection ho with ho
  rw [← ho]
  apply Array.toList_inj.1
  rw [Array.toList_setIfInBounds, List.toList_toArray]
  apply List.ext_getElem?
  intro j
  have hxs : ∀ d, d < 11 → (sq Slt.enc xs r).toList[k * 11 + d]? = (Slt.enc x)[d]? := by
    intro d hd
    have := sq_cell Slt.len h r d hd
    rwa [← Array.getElem?_toList] at this
  have hsz : (sq Slt.enc xs r).toList.length = xs.length * 11 + r.length := by rw [Array.length_toList, sq_size Slt.len]
  rw [getElem?_splice _ _ _ _ (by rw [hsz]; unfold slc; rw [List.toList_toArray, Slt.len]; omega)]
  have hs11 : (slc (x.use u)).toList.length = 11 := by rw [Array.length_toList, slc_size]
  rw [hs11, List.getElem?_set]
  by_cases hj : k * 11 + 10 = j
  · subst hj
    rw [if_pos rfl, if_pos (by rw [hsz]; omega), if_neg (by omega), if_pos (by omega), show k * 11 + 10 - k * 11 = 10 by omega]
    unfold slc
    rw [List.toList_toArray, enc_us]; rfl
  · rw [if_neg hj]
    split
    · rfl
    · split
      · obtain ⟨d, rfl⟩ : ∃ d, j = k * 11 + d := ⟨j - k * 11, by omega⟩
        rw [hxs d (by omega), show k * 11 + d - k * 11 = d by omega]
        unfold slc
        rw [List.toList_toArray, ← e2, List.getElem?_set_ne (by omega)]
      · rfl
end
theorem made_slots (n : Nat) : madeCells sltV.cells (n * 11) = sq Slt.enc (List.replicate n sltZ) [] := by
  apply Array.ext
  · rw [sq_size Slt.len]; simp [madeCells]
  · intro i h1 h2
    have hi : i < n * 11 := by simpa [madeCells] using h1
    obtain ⟨k, d, hk, hd, rfl⟩ : ∃ k d, k < n ∧ d < 11 ∧ i = k * 11 + d := ⟨i / 11, i % 11, by omega, Nat.mod_lt _ (by omega), by omega⟩
    have h3 : (List.replicate n sltZ)[k]? = some sltZ := by rw [List.getElem?_replicate, if_pos hk]
    have h4 := sq_cell Slt.len h3 [] d hd
    rw [Array.getElem?_eq_getElem h2] at h4
    have e11 : sltV.cells.size = 11 := rfl
    have hmod : (k * 11 + d) % 11 = d := by omega
    simp only [madeCells, Array.getElem_map, Array.getElem_range]
    have h5 : (sltV.cells)[d]? = (Slt.enc sltZ)[d]? := by rw [show sltV.cells = (Slt.enc sltZ).toArray from rfl, List.getElem?_toArray]
    rw [← h4, Array.getElem?_eq_getElem (by rw [e11]; exact hd)] at h5
    rw [e11, hmod, getElem!_pos sltV.cells d (by rw [e11]; exact hd)]
    exact Option.some.inj h5
end Go.Proofs.YtadeoflkppiflaaDoor
