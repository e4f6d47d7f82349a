/- A slice of its own block that is cut at its head and grows at its end. No condition. -/
import Derived.Test.YtnocekhgabgffaaSeq
namespace Go.Proofs.Ytnocekhgabgffaa
open Go.RowKit
set_option linter.unusedVariables false
section
variable {α : Type} {enc : α → List Value} {k bytes : Nat} {P : Program} {t ty e : TypeId} {z : Value}
/-- A block's cells: some that are gone, elements, then others. -/
def sqo (enc : α → List Value) (p : List Value) (xs : List α) (r : List Value) : Array Value := (p ++ (cat enc xs ++ r)).toArray
theorem sqo_size (hk : ∀ a, (enc a).length = k) (p : List Value) (xs : List α) (r : List Value) : (sqo enc p xs r).size = p.length + xs.length * k + r.length := by simp [sqo, cat_length hk]; omega
theorem sqo_toList (p : List Value) (xs : List α) (r : List Value) : (sqo enc p xs r).toList = p ++ (cat enc xs ++ r) := by simp [sqo]
/-- A variable that is a slice of its own block be, from some place on (be is q where there is none yet). -/
def Vof (k : Nat) (e : TypeId) (enc : α → List Value) (w : World) (q be : Nat) (A : Option Addr) (cap : Nat) (xs : List α) : Prop :=
  (be = q ∧ A = none ∧ cap = 0 ∧ xs = []) ∨ (be ≠ q ∧ xs.length ≤ cap ∧ ∃ (o : Nat) (p r : List Value), A = some ⟨be, o, none⟩ ∧ p.length = o ∧ w.heap[be]? = some (.cells (sqo enc p xs r) e (0, 0)) ∧ cap * k ≤ xs.length * k + r.length)
theorem Vof.nil (k : Nat) (e : TypeId) (enc : α → List Value) (w : World) (q : Nat) : Vof k e enc w q q none 0 ([] : List α) := .inl ⟨rfl, rfl, rfl, rfl⟩
section
variable {w w' : World} {q be : Nat} {A : Option Addr} {cap : Nat} {xs : List α}
theorem Vof.le (h : Vof k e enc w q be A cap xs) : xs.length ≤ cap := by
  rcases h with ⟨_, _, rfl, rfl⟩ | ⟨_, h, _⟩
  · simp
  · exact h
theorem Vof.keep {l : List Nat} (h : Vof k e enc w q be A cap xs) (hc : Chg l w w') (hb : be ∉ l) : Vof k e enc w' q be A cap xs :=
  h.imp id fun ⟨h1, h2, o, p, r, h3, h4, h5, h6⟩ => ⟨h1, h2, o, p, r, h3, h4, hc.keep h5 hb, h6⟩
theorem Vof.old (h : Vof k e enc w q be A cap xs) (hq : Old w q) : Old w be := by
  rcases h with ⟨rfl, _⟩ | ⟨_, _, o, p, r, _, _, h5, _⟩
  · exact hq
  · exact Go.Proofs.Ytnocekhgabgffaa.old h5
theorem Vof.sl (hk : ∀ a, (enc a).length = k) (h : Vof k e enc w q be A cap xs) : Sl w k A xs.length (cat enc xs) := by
  refine ⟨cat_length hk xs, ?_⟩
  rcases h with ⟨_, _, _, rfl⟩ | ⟨_, _, o, p, r, rfl, rfl, h5, _⟩
  · exact .inl rfl
  · refine .inr ⟨be, _, _, e, (0, 0), rfl, h5, ?_⟩
    rw [sqo_toList, List.drop_append_of_le_length (Nat.le_refl _), List.drop_eq_nil_of_le (Nat.le_refl _), List.nil_append, List.take_append_of_le_length (by rw [cat_length hk]; exact Nat.le_refl _), List.take_of_length_le (by rw [cat_length hk]; exact Nat.le_refl _)]
/-- The place behind the first element, as the program reckons it. -/
def behind (k : Nat) (A : Option Addr) (cap : Nat) : Option Addr := if cap = 1 then A else A.map (·.add (1 * k))
/-- Cut at the head. -/
theorem Vof.tail {x : α} {xs : List α} (hk : ∀ a, (enc a).length = k) (h : Vof k e enc w q be A cap (x :: xs)) : Vof k e enc w q be (behind k A cap) (cap - 1) xs := by
  rcases h with ⟨_, _, _, h⟩ | ⟨h1, h2, o, p, r, rfl, rfl, h5, h6⟩
  · cases h
  · simp only [List.length_cons] at h2 h6
    rw [Nat.add_mul] at h6
    have hm : (cap - 1) * k + 1 * k = cap * k := by rw [← Nat.add_mul]; congr 1; omega
    refine .inr ⟨h1, by omega, ?_⟩
    unfold behind
    split
    · rename_i h0
      have e0 : xs = [] := List.eq_nil_of_length_eq_zero (by omega)
      subst e0
      refine ⟨_, p, enc x ++ r, rfl, rfl, ?_, by rw [h0]; simp⟩
      rw [h5]
      simp [sqo, cat]
    · refine ⟨p.length + 1 * k, p ++ enc x, r, by rw [Option.map_some, Addr.add_mid], by simp [hk], ?_, by omega⟩
      rw [h5]
      simp [sqo, cat_cons]
/-- 'x[1:]', closed to the walk. -/
def slS (t : TypeId) (x : Value) (lo hi mx : Option Value) : Sem Value := Instr.slice t x lo hi mx
def slR (P : Program) (t : TypeId) (x : Value) (lo hi mx : Option Value) (w : World) : Result Value := (Instr.slice t x lo hi mx).run P w
theorem slice_slS (t : TypeId) (x : Value) (lo hi mx : Option Value) : Instr.slice t x lo hi mx = slS t x lo hi mx := rfl
theorem run_slS (P : Program) (t : TypeId) (x : Value) (lo hi mx : Option Value) (w : World) : (slS t x lo hi mx).run P w = slR P t x lo hi mx w := rfl
theorem slR_tail (E : Elt P t e k bytes z enc) (A : Option Addr) (n cap : Nat) (hc : n + 1 ≤ cap) (w : World) : slR P t (.slice A (n + 1) cap) (some (.int .i64 1)) none none w = .ok (.slice (behind k A cap) n (cap - 1)) w := by
  obtain ⟨i0, hi0, hz0, hz1, hz2⟩ := info_parts E.info
  subst hz1
  unfold slR behind
  have h1 : (0 : Int) ≤ 1 := by omega
  have h2 : (1 : Int) ≤ ((n + 1 : Nat) : Int) := by omega
  simp [Instr.slice, Instr.sliceBounds, Instr.sliceBound, asIntOf, run_underlying E.slice, sizeOf, typeInfo, hi0]
  intro h; omega
/-- The first element. -/
theorem Vof.first {x : α} {xs : List α} (hk : ∀ a, (enc a).length = k) (h : Vof k e enc w q be A cap (x :: xs)) :
    be ≠ q ∧ ∃ (o : Nat) (C : Array Value), A = some ⟨be, o, none⟩ ∧ w.heap[be]? = some (.cells C e (0, 0)) ∧ rowIn (some (.cells C e (0, 0))) o k = true ∧ rowPart (some (.cells C e (0, 0))) o k = (enc x).toArray := by
  rcases h with ⟨_, _, _, h⟩ | ⟨h1, h2, o, p, r, rfl, rfl, h5, h6⟩
  · cases h
  · refine ⟨h1, _, _, rfl, h5, ?_, ?_⟩
    · rw [rowIn_some, sqo_size hk]
      refine decide_eq_true (show _ ≤ _ from ?_)
      simp only [List.length_cons, Nat.add_mul]; omega
    · rw [rowPart_some, sqo_toList, List.drop_append_of_le_length (Nat.le_refl _), List.drop_eq_nil_of_le (Nat.le_refl _), List.nil_append, cat_cons, List.append_assoc, List.take_append_of_le_length (by rw [hk]; exact Nat.le_refl _), List.take_of_length_le (by rw [hk]; exact Nat.le_refl _)]
end
/-- Elements appended: none, into the room that there is, into a new block. -/
theorem Vof.app (E : Elt P t e k bytes z enc) {w : World} {q be : Nat} {A : Option Addr} {cap : Nat} {xs : List α} (hv : Vof k e enc w q be A cap xs) (hq : Old w q)
    {B : Option Addr} {m c : Nat} {ys : List α} (hs : Sl w k B m (cat enc ys)) (hm : ys.length = m) (hB : (xs.length + m) * bytes ≤ 140737488355328) (h63 : xs.length + m ≤ maxLen) :
    ∃ (be' cap' : Nat) (A' : Option Addr) (w' : World), appR P t ty #[.slice A xs.length cap, .slice B m c] w = .ok (.slice A' (xs.length + m) cap') w' ∧ Vof k e enc w' q be' A' cap' (xs ++ ys) ∧ (be' = be ∨ w.heap.size ≤ be') ∧ Chg [be] w w' ∧ w'.heap[q]? = w.heap[q]? := by
  obtain ⟨i0, hi0, hz0, hz1, hz2⟩ := info_parts E.info
  subst hz1
  subst hz2
  have h63' : xs.length + m ≤ 9223372036854775807 := by simp only [maxLen] at h63; omega
  rcases Nat.eq_zero_or_pos m with h0 | h0
  · subst h0
    obtain rfl : ys = [] := List.eq_nil_of_length_eq_zero hm
    have hfc := run_firstCells_sl (P := P) w i0.size 0 B 0 c [] ⟨by simp, .inl rfl⟩
    refine ⟨be, cap, A, w, ?_, by simpa using hv, .inl rfl, Chg.refl _ _, rfl⟩
    have hle := hv.le
    unfold appR
    cases A with
    | none => simp [Builtin.append_, run_underlying E.slice, sizeOf, typeInfo, hi0, Builtin.lenOf, hfc, hle]
    | some a => simp [Builtin.append_, run_underlying E.slice, sizeOf, typeInfo, hi0, Builtin.lenOf, hfc, hle, storeCells]
  · obtain ⟨b, o, rfl⟩ := hs.addr h0
    have hcells : ∀ j v, (cat enc ys)[j]? = some v → w.cell? ((⟨b, o, none⟩ : Addr).add j) = some v := hs.cells
    have hlen : (cat enc ys).length = m * i0.size := hs.1
    have holdS := hv.sl E.len
    rcases hv with ⟨rfl, rfl, rfl, rfl⟩ | ⟨hne, hle, o1, p, r, rfl, rfl, hb, hr⟩
    · have := run_append_nil (P := P) w t ty e i0 z E.slice hi0 hz0 ⟨b, o, none⟩ m c (cat enc ys) hlen hcells h0 (by rw [List.length_nil, Nat.zero_add] at h63'; omega) (by rw [List.length_nil, Nat.zero_add] at hB; omega)
      have hge := grownCap_ge w m 0 e
      refine ⟨w.heap.size, grownCap w m 0 e, some ⟨w.heap.size, 0, none⟩, _, by simpa [appR] using this, ?_, .inr (Nat.le_refl _), (Chg.refl _ _).drew.alloc _, ?_⟩
      · refine .inr ⟨by have := hq.lt; omega, by simp [hm]; exact hge, 0, [], (Builtin.zeroCells z.cells (grownCap w m 0 e - m)).toList, rfl, rfl, ?_, ?_⟩
        · rw [heap_alloc]
          have h2 : w.drew.heap[w.heap.size]? = none := Array.getElem?_eq_none (Nat.le_refl _)
          have h3 : w.heap.size = w.drew.heap.size := rfl
          rw [h2, if_pos h3]
          simp [sqo]
        · simp only [List.nil_append, hm, Array.length_toList, size_zeroCells, E.zero]
          rw [← Nat.add_mul]; apply Nat.mul_le_mul_right; omega
      · rw [heap_alloc, heap_drew, if_neg (by have h1 := hq.lt; have h2 : w.drew.heap.size = w.heap.size := rfl; omega), Option.or_none]
    · by_cases hroom : xs.length + m ≤ cap
      · have hmul : (xs.length + m) * i0.size ≤ cap * i0.size := Nat.mul_le_mul_right _ hroom
        rw [Nat.add_mul] at hmul
        have hsz : (sqo enc p xs r).size = p.length + xs.length * i0.size + r.length := sqo_size E.len p xs r
        have hrow : rowHas (w.heap[be]?) (p.length + xs.length * i0.size) (cat enc ys).length = true := by
          rw [hb, rowHas_some, hsz, hlen]
          exact decide_eq_true (show _ ≤ _ by omega)
        have hr2 := run_append_room_cells (P := P) w t ty e i0 E.slice hi0 be p.length xs.length cap ⟨b, o, none⟩ m c (cat enc ys) hlen hcells (cat_one_cell E.one ys) hroom
          (by intro j hj; rw [cell_row, hb, rowCell_some]; simp; rw [hsz]; omega)
          (by intro j hj; rw [frozen_row, hb, rowFrozen_some])
        refine ⟨be, cap, _, _, hr2, .inr ⟨hne, by simp [hm, hroom], p.length, p, r.drop (m * i0.size), rfl, rfl, ?_, ?_⟩, .inl rfl, Chg.setCells be (.inl (by simp)) _ _ _ (Chg.refl _ _), ?_⟩
        · rw [heap_setCells _ _ _ _ _ hrow, if_pos rfl, hb, rowPut_some, sqo_toList]
          congr 2
          unfold sqo splice
          congr 1
          have e1 : (cat enc xs).length = xs.length * i0.size := cat_length E.len xs
          have e2 : (p ++ (cat enc xs ++ r)).take (p.length + xs.length * i0.size) = p ++ cat enc xs := by
            rw [← List.append_assoc, List.take_append_of_le_length (by simp; omega), List.take_of_length_le (by simp; omega)]
          have e3 : (p ++ (cat enc xs ++ r)).drop (p.length + xs.length * i0.size + m * i0.size) = r.drop (m * i0.size) := by
            rw [← List.append_assoc, List.drop_append, List.drop_eq_nil_of_le (by simp; omega), List.nil_append]
            congr 1
            simp [e1]
          rw [List.toList_toArray, hlen, e2, e3, cat_append]
          simp only [List.append_assoc]
        · simp only [List.length_append, hm, List.length_drop]
          rw [Nat.add_mul]; omega
        · rw [heap_setCells _ _ _ _ _ hrow, if_neg (Ne.symm hne)]
      · have hgr := run_append_grow (P := P) w t ty e i0 z E.slice hi0 hz0 ⟨be, p.length, none⟩ xs.length cap (cat enc xs) (cat_length E.len xs) holdS.cells ⟨b, o, none⟩ m c (cat enc ys) hlen hcells (by omega) (by omega) (growslice_fits (by omega) hB)
        have hge := grownCap_ge w (xs.length + m) cap e
        refine ⟨w.heap.size, grownCap w (xs.length + m) cap e, _, _, hgr, ?_, .inr (Nat.le_refl _), (Chg.refl _ _).drew.alloc _, ?_⟩
        · refine .inr ⟨by have := hq.lt; omega, by simp [hm]; exact hge, 0, [], (Builtin.zeroCells z.cells (grownCap w (xs.length + m) cap e - (xs.length + m))).toList, rfl, rfl, ?_, ?_⟩
          · rw [heap_alloc]
            have h2 : w.drew.heap[w.heap.size]? = none := Array.getElem?_eq_none (Nat.le_refl _)
            have h3 : w.heap.size = w.drew.heap.size := rfl
            rw [h2, if_pos h3]
            simp [sqo, cat_append]
          · simp only [List.length_append, hm, Array.length_toList, size_zeroCells, E.zero]
            rw [← Nat.add_mul]; apply Nat.mul_le_mul_right; omega
        · rw [heap_alloc, heap_drew, if_neg (by have h1 := hq.lt; have h2 : w.drew.heap.size = w.heap.size := rfl; omega), Option.or_none]
/-- 'append([]T{}, x...)': all elements, in their own block, or none. -/
theorem clone_elts (E : Elt P t e k bytes z enc) (w : World) (e0 : Addr) (A : Option Addr) (n c : Nat) (xs : List α) (h : Sl w k A n (cat enc xs)) (hn : xs.length = n) (hB : n * bytes ≤ 140737488355328) (h63 : n ≤ maxLen) :
    ∃ (A' : Option Addr) (c' : Nat) (w' : World), appR P t ty #[.slice (some e0) 0 0, .slice A n c] w = .ok (.slice A' n c') w' ∧ Sl w' k A' n (cat enc xs) ∧ Chg [] w w' := by
  obtain ⟨i0, hi0, hz0, hz1, hz2⟩ := info_parts E.info
  subst hz1
  subst hz2
  rcases Nat.eq_zero_or_pos n with h0 | h0
  · subst h0
    obtain rfl : xs = [] := List.eq_nil_of_length_eq_zero hn
    exact ⟨_, _, _, run_clone0 E.slice hi0 w e0 A c, ⟨by simp [cat], .inl rfl⟩, Chg.refl _ _⟩
  · refine ⟨_, _, _, run_clone E.slice hi0 hz0 w e0 A n c _ h h0 h63 hB, ⟨h.1, .inr ⟨w.heap.size, 0, (cat enc xs ++ (Builtin.zeroCells z.cells (grownCap w n 0 e - n)).toList).toArray, e, (0, 0), rfl, ?_, ?_⟩⟩, (Chg.refl _ _).drew.alloc _⟩
    · rw [heap_alloc]
      have h2 : w.drew.heap[w.heap.size]? = none := Array.getElem?_eq_none (Nat.le_refl _)
      have h3 : w.heap.size = w.drew.heap.size := rfl
      rw [h2, if_pos h3]
      rfl
    rw [List.drop_zero, List.toList_toArray, List.take_append_of_le_length (by rw [h.1]; exact Nat.le_refl _), List.take_of_length_le (by rw [h.1]; exact Nat.le_refl _)]
end
end Go.Proofs.Ytnocekhgabgffaa
