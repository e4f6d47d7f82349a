/- Texts of the walk, one behind the other: Seq Seo Msgm Wpqm Arrm Agm. No condition. -/
import Derived.Test.YtcjoinhngdfdmaaGreatDoorCNaa
import Derived.DeepKeys
section
namespace Go.Proofs.YtcjoinhngdfdmaaGreatDoor
open Go.RowKit
set_option linter.unusedVariables false

/-! ### Elements one behind the other -/
section
variable {α : Type} {enc : α → List Value} {k : Nat}
/-- The cells of elements. -/
def cat (enc : α → List Value) (xs : List α) : List Value := (xs.map enc).flatten
theorem cat_cons (x : α) (xs : List α) : cat enc (x :: xs) = enc x ++ cat enc xs := by simp [cat]
theorem cat_append (xs ys : List α) : cat enc (xs ++ ys) = cat enc xs ++ cat enc ys := by simp [cat]
theorem cat_one (x : α) : cat enc [x] = enc x := by simp [cat]
theorem cat_length (hk : ∀ a, (enc a).length = k) : ∀ xs : List α, (cat enc xs).length = xs.length * k
  | [] => by simp [cat]
  | x :: xs => by rw [cat_cons, List.length_append, cat_length hk xs, hk, List.length_cons, Nat.add_mul]; omega
theorem cat_take (hk : ∀ a, (enc a).length = k) : ∀ (xs : List α) (i : Nat), (cat enc xs).take (i * k) = cat enc (xs.take i)
  | [], i => by simp [cat]
  | x :: xs, 0 => by simp [cat]
  | x :: xs, i + 1 => by
    rw [cat_cons, List.take_succ_cons, cat_cons, ← cat_take hk xs i, List.take_append, List.take_of_length_le (by rw [hk, Nat.add_mul]; omega), hk]
    congr 2
    rw [Nat.add_mul]; omega
theorem cat_drop (hk : ∀ a, (enc a).length = k) : ∀ (xs : List α) (i : Nat), (cat enc xs).drop (i * k) = cat enc (xs.drop i)
  | [], i => by simp [cat]
  | x :: xs, 0 => by simp [cat]
  | x :: xs, i + 1 => by
    rw [cat_cons, List.drop_succ_cons, ← cat_drop hk xs i, List.drop_append, List.drop_eq_nil_of_le (by rw [hk, Nat.add_mul]; omega), hk, List.nil_append]
    congr 1
    rw [Nat.add_mul]; omega
theorem cat_part (hk : ∀ a, (enc a).length = k) {xs : List α} {i : Nat} {a : α} (h : xs[i]? = some a) : ((cat enc xs).drop (i * k)).take k = enc a := by
  obtain ⟨hi, rfl⟩ := List.getElem?_eq_some_iff.1 h
  rw [cat_drop hk, List.drop_eq_getElem_cons hi, cat_cons, List.take_append_of_le_length (by rw [hk]; omega), List.take_of_length_le (by rw [hk]; omega)]
theorem cat_splice (hk : ∀ a, (enc a).length = k) (xs ys : List α) (i : Nat) : splice (cat enc xs) (i * k) (cat enc ys) = cat enc (splice xs i ys) := by
  unfold splice
  rw [cat_take hk, cat_length hk, ← Nat.add_mul, cat_drop hk, cat_append, cat_append]
theorem cat_one_cell (h1 : ∀ a, ∀ v ∈ enc a, v.oneCell' = true) (xs : List α) : ∀ v ∈ cat enc xs, v.oneCell' = true := by
  intro v hv
  simp only [cat, List.mem_flatten, List.mem_map] at hv
  obtain ⟨l, ⟨a, _, rfl⟩, hv⟩ := hv
  exact h1 a v hv
/-- A block's cells: elements, then others. -/
def sq (enc : α → List Value) (xs : List α) (r : List Value) : Array Value := (cat enc xs ++ r).toArray
theorem sq_size (hk : ∀ a, (enc a).length = k) (xs : List α) (r : List Value) : (sq enc xs r).size = xs.length * k + r.length := by simp [sq, cat_length hk]
theorem sq_toList (xs : List α) (r : List Value) : (sq enc xs r).toList = cat enc xs ++ r := by simp [sq]
theorem mul_lt_of {i n k : Nat} (h : i < n) : i * k + k ≤ n * k := by rw [← Nat.succ_mul]; exact Nat.mul_le_mul_right _ h
/-- Some cells of element i. -/
theorem rowPart_sq (hk : ∀ a, (enc a).length = k) {xs : List α} {i : Nat} {a : α} (h : xs[i]? = some a) (r : List Value) (t : TypeId) (f : Nat × Nat) (o n : Nat) (hn : o + n ≤ k) :
    rowPart (some (.cells (sq enc xs r) t f)) (i * k + o) n = ((enc a).drop o |>.take n).toArray := by
  have hi := (List.getElem?_eq_some_iff.1 h).1
  have hl := cat_length hk xs
  have hm := mul_lt_of (k := k) hi
  rw [rowPart_some, sq_toList, ← List.drop_drop, List.drop_append_of_le_length (by rw [hl]; omega), List.drop_append_of_le_length (by rw [List.length_drop, hl]; omega), List.take_append_of_le_length (by rw [List.length_drop, List.length_drop, hl]; omega)]
  rw [← cat_part hk h, List.drop_take, List.take_take, Nat.min_eq_left (by omega)]
theorem rowIn_sq (hk : ∀ a, (enc a).length = k) {xs : List α} {i : Nat} (hi : i < xs.length) (r : List Value) (t : TypeId) (f : Nat × Nat) (o n : Nat) (hn : o + n ≤ k) :
    rowIn (some (.cells (sq enc xs r) t f)) (i * k + o) n = true := by
  have hm := mul_lt_of (k := k) hi
  rw [rowIn_some, sq_size hk]
  exact decide_eq_true (show _ ≤ _ by omega)
theorem sq_cell (hk : ∀ a, (enc a).length = k) {xs : List α} {i : Nat} {a : α} (h : xs[i]? = some a) (r : List Value) (o : Nat) (ho : o < k) : (sq enc xs r)[i * k + o]? = (enc a)[o]? := by
  have hi := (List.getElem?_eq_some_iff.1 h).1
  have hl := cat_length hk xs
  have hm := mul_lt_of (k := k) hi
  rw [← cat_part hk h]
  unfold sq
  rw [List.getElem?_toArray, List.getElem?_append_left (by rw [hl]; omega), List.getElem?_take_of_lt ho, List.getElem?_drop]
end

/-- A kind of elements, as the program has it. -/
structure Elt {α : Type} (P : Program) (t e : TypeId) (k bytes : Nat) (z : Value) (enc : α → List Value) : Prop where
  slice : P.underlying t = some (.slice e)
  info : (P.info? e).map (fun i => (i.zero, i.size, i.bytes)) = some (some z, k, bytes)
  zero : z.cells.size = k
  zone : ∀ v ∈ z.cells, v.oneCell' = true
  pos : 0 < k
  len : ∀ a, (enc a).length = k
  one : ∀ a, ∀ v ∈ enc a, v.oneCell' = true

/-! ### A variable that is a slice of its own block be, at its head (be is q where there is none yet) -/
section
variable {α : Type} {enc : α → List Value} {k bytes : Nat} {P : Program} {t ty e : TypeId} {z : Value}
def Vec (k : Nat) (e : TypeId) (enc : α → List Value) (w : World) (q be : Nat) (A : Option Addr) (cap : Nat) (xs : List α) : Prop :=
  (be = q ∧ A = none ∧ cap = 0 ∧ xs = []) ∨ (be ≠ q ∧ A = some ⟨be, 0, none⟩ ∧ xs.length ≤ cap ∧ ∃ r : List Value, w.heap[be]? = some (.cells (sq enc xs r) e (0, 0)) ∧ xs.length * k + r.length = cap * k)
theorem Vec.nil (k : Nat) (e : TypeId) (enc : α → List Value) (w : World) (q : Nat) : Vec k e enc w q q none 0 ([] : List α) := .inl ⟨rfl, rfl, rfl, rfl⟩
theorem Vec.le {w : World} {q be : Nat} {A : Option Addr} {cap : Nat} {xs : List α} (h : Vec k e enc w q be A cap xs) : xs.length ≤ cap := by
  rcases h with ⟨_, _, rfl, rfl⟩ | ⟨_, _, h, _⟩
  · simp
  · exact h
theorem Vec.keep {w w' : World} {q be : Nat} {A : Option Addr} {cap : Nat} {xs : List α} {l : List Nat} (h : Vec k e enc w q be A cap xs) (hc : Chg l w w') (hb : be ∉ l) : Vec k e enc w' q be A cap xs :=
  h.imp id fun ⟨h1, h2, h3, r, h4, h5⟩ => ⟨h1, h2, h3, r, hc.keep h4 hb, h5⟩
theorem Vec.old {w : World} {q be : Nat} {A : Option Addr} {cap : Nat} {xs : List α} (h : Vec k e enc w q be A cap xs) (hq : Old w q) : Old w be := by
  rcases h with ⟨rfl, _⟩ | ⟨_, _, _, r, h4, _⟩
  · exact hq
  · exact Go.Proofs.YtcjoinhngdfdmaaGreatDoor.old h4
theorem Vec.sl (hk : ∀ a, (enc a).length = k) {w : World} {q be : Nat} {A : Option Addr} {cap : Nat} {xs : List α} (h : Vec k e enc w q be A cap xs) : Sl w k A xs.length (cat enc xs) := by
  refine ⟨cat_length hk xs, ?_⟩
  rcases h with ⟨_, _, _, rfl⟩ | ⟨_, rfl, _, r, h4, _⟩
  · exact .inl rfl
  · exact .inr ⟨be, 0, _, e, (0, 0), rfl, h4, by rw [sq_toList, List.drop_zero, List.take_append_of_le_length (by rw [cat_length hk]; exact Nat.le_refl _), List.take_of_length_le (by rw [cat_length hk]; exact Nat.le_refl _)]⟩
/-- Elements appended: none, into the room that there is, into a new block. -/
theorem Vec.app (E : Elt P t e k bytes z enc) {w : World} {q be : Nat} {A : Option Addr} {cap : Nat} {xs : List α} (hv : Vec k e enc w q be A cap xs) (hq : Old w q)
    {B : Option Addr} {m c : Nat} {ys : List α} (hs : Sl w k B m (cat enc ys)) (hm : ys.length = m) (hB : (xs.length + m) * bytes ≤ 140737488355328) (h63 : xs.length + m ≤ maxLen) :
    ∃ (be' cap' : Nat) (A' : Option Addr) (w' : World), appR P t ty #[.slice A xs.length cap, .slice B m c] w = .ok (.slice A' (xs.length + m) cap') w' ∧ Vec k e enc w' q be' A' cap' (xs ++ ys) ∧ (be' = be ∨ w.heap.size ≤ be') ∧ Chg [be] w w' ∧ w'.heap[q]? = w.heap[q]? := by
  obtain ⟨i0, hi0, hz0, hz1, hz2⟩ := info_parts E.info
  subst hz1
  subst hz2
  have h63' : xs.length + m ≤ 9223372036854775807 := by simp only [maxLen] at h63; omega
  rcases Nat.eq_zero_or_pos m with h0 | h0
  · subst h0
    obtain rfl : ys = [] := List.eq_nil_of_length_eq_zero hm
    have hfc := run_firstCells_sl (P := P) w i0.size 0 B 0 c [] ⟨by simp, .inl rfl⟩
    refine ⟨be, cap, A, w, ?_, by simpa using hv, .inl rfl, Chg.refl _ _, rfl⟩
    have hle := hv.le
    unfold appR
    cases A with
    | none => simp [Builtin.append_, run_underlying E.slice, sizeOf, typeInfo, hi0, Builtin.lenOf, hfc, hle]
    | some a => simp [Builtin.append_, run_underlying E.slice, sizeOf, typeInfo, hi0, Builtin.lenOf, hfc, hle, storeCells]
  · obtain ⟨b, o, rfl⟩ := hs.addr h0
    have hcells : ∀ j v, (cat enc ys)[j]? = some v → w.cell? ((⟨b, o, none⟩ : Addr).add j) = some v := hs.cells
    have hlen : (cat enc ys).length = m * i0.size := hs.1
    rcases hv with ⟨rfl, rfl, rfl, rfl⟩ | ⟨hne, rfl, hle, r, hb, hr⟩
    · have := run_append_nil (P := P) w t ty e i0 z E.slice hi0 hz0 ⟨b, o, none⟩ m c (cat enc ys) hlen hcells h0 (by rw [List.length_nil, Nat.zero_add] at h63'; omega) (by rw [List.length_nil, Nat.zero_add] at hB; omega)
      have hge := grownCap_ge w m 0 e
      refine ⟨w.heap.size, grownCap w m 0 e, some ⟨w.heap.size, 0, none⟩, _, by simpa [appR] using this, ?_, .inr (Nat.le_refl _), (Chg.refl _ _).drew.alloc _, ?_⟩
      · refine .inr ⟨by have := hq.lt; omega, rfl, by simp [hm]; exact hge, (Builtin.zeroCells z.cells (grownCap w m 0 e - m)).toList, ?_, ?_⟩
        · rw [heap_alloc]
          have h2 : w.drew.heap[w.heap.size]? = none := Array.getElem?_eq_none (Nat.le_refl _)
          have h3 : w.heap.size = w.drew.heap.size := rfl
          rw [h2, if_pos h3]
          simp [sq]
        · simp only [List.nil_append, hm, Array.length_toList, size_zeroCells, E.zero]
          rw [← Nat.add_mul]; congr 1; omega
      · rw [heap_alloc, heap_drew, if_neg (by have h1 := hq.lt; have h2 : w.drew.heap.size = w.heap.size := rfl; omega), Option.or_none]
    · by_cases hroom : xs.length + m ≤ cap
      · have hmul : (xs.length + m) * i0.size ≤ cap * i0.size := Nat.mul_le_mul_right _ hroom
        rw [Nat.add_mul] at hmul
        have hsz : (sq enc xs r).size = xs.length * i0.size + r.length := sq_size E.len xs r
        have hrow : rowHas (w.heap[be]?) (xs.length * i0.size) (cat enc ys).length = true := by
          rw [hb, rowHas_some, hsz, hlen]
          exact decide_eq_true (show _ ≤ _ by omega)
        have hr2 := run_append_room_cells (P := P) w t ty e i0 E.slice hi0 be 0 xs.length cap ⟨b, o, none⟩ m c (cat enc ys) hlen hcells (cat_one_cell E.one ys) hroom
          (by intro j hj; rw [Nat.zero_add, cell_row, hb, rowCell_some]; simp; rw [hsz]; omega)
          (by intro j hj; rw [Nat.zero_add, frozen_row, hb, rowFrozen_some])
        rw [Nat.zero_add] at hr2
        refine ⟨be, cap, _, _, hr2, .inr ⟨hne, rfl, by simp [hm, hroom], r.drop (m * i0.size), ?_, ?_⟩, .inl rfl, Chg.setCells be (.inl (by simp)) _ _ _ (Chg.refl _ _), ?_⟩
        · rw [heap_setCells _ _ _ _ _ hrow, if_pos rfl, hb, rowPut_some, sq_toList]
          congr 2
          unfold sq splice
          rw [List.toList_toArray, List.take_append_of_le_length (by rw [cat_length E.len]; exact Nat.le_refl _), List.take_of_length_le (by rw [cat_length E.len]; exact Nat.le_refl _), cat_append, hlen, List.drop_append, cat_length E.len, List.drop_eq_nil_of_le (by rw [cat_length E.len]; omega), List.nil_append]
          congr 3
          omega
        · simp only [List.length_append, hm, List.length_drop]
          rw [Nat.add_mul]; omega
        · rw [heap_setCells _ _ _ _ _ hrow, if_neg (Ne.symm hne)]
      · have holds : ∀ j v, (cat enc xs)[j]? = some v → w.cell? ((⟨be, 0, none⟩ : Addr).add j) = some v := by
          intro j v hv
          have hj := (List.getElem?_eq_some_iff.1 hv).1
          rw [Addr.add_mid, cell_row, hb, rowCell_some]
          unfold sq
          rw [List.getElem?_toArray, Nat.zero_add, List.getElem?_append_left hj]
          exact hv
        have hgr := run_append_grow (P := P) w t ty e i0 z E.slice hi0 hz0 ⟨be, 0, none⟩ xs.length cap (cat enc xs) (cat_length E.len xs) holds ⟨b, o, none⟩ m c (cat enc ys) hlen hcells (by omega) (by omega) (growslice_fits (by omega) hB)
        have hge := grownCap_ge w (xs.length + m) cap e
        refine ⟨w.heap.size, grownCap w (xs.length + m) cap e, _, _, hgr, ?_, .inr (Nat.le_refl _), (Chg.refl _ _).drew.alloc _, ?_⟩
        · refine .inr ⟨by have := hq.lt; omega, rfl, by simp [hm]; exact hge, (Builtin.zeroCells z.cells (grownCap w (xs.length + m) cap e - (xs.length + m))).toList, ?_, ?_⟩
          · rw [heap_alloc]
            have h2 : w.drew.heap[w.heap.size]? = none := Array.getElem?_eq_none (Nat.le_refl _)
            have h3 : w.heap.size = w.drew.heap.size := rfl
            rw [h2, if_pos h3]
            simp [sq, cat_append]
          · simp only [List.length_append, hm, Array.length_toList, size_zeroCells, E.zero]
            rw [← Nat.add_mul]; congr 1; omega
        · rw [heap_alloc, heap_drew, if_neg (by have h1 := hq.lt; have h2 : w.drew.heap.size = w.heap.size := rfl; omega), Option.or_none]

theorem Chg.less {q : Nat} {w w' : World} (h : Chg [q] w w') (hq : w'.heap[q]? = w.heap[q]?) : Chg [] w w' :=
  ⟨h.os, h.tape, h.output, h.size, fun j hj _ => by
    by_cases e : j = q
    · rw [e, hq]
    · exact h.block j hj (by simpa using e)⟩
/-- The same for a slice that grows while nothing that was there at first is changed. -/
theorem Vec.acc (E : Elt P t e k bytes z enc) {w0 w : World} {q be : Nat} {A : Option Addr} {cap : Nat} {xs : List α} (hc : Chg [] w0 w) (hv : Vec k e enc w q be A cap xs) (hbe : be = q ∨ w0.heap.size ≤ be) (hq : Old w0 q)
    {B : Option Addr} {m c : Nat} {ys : List α} (hs : Sl w k B m (cat enc ys)) (hm : ys.length = m) (hB : (xs.length + m) * bytes ≤ 140737488355328) (h63 : xs.length + m ≤ maxLen) :
    ∃ (be' cap' : Nat) (A' : Option Addr) (w' : World), appR P t ty #[.slice A xs.length cap, .slice B m c] w = .ok (.slice A' (xs.length + m) cap') w' ∧ Vec k e enc w' q be' A' cap' (xs ++ ys) ∧ (be' = q ∨ w0.heap.size ≤ be') ∧ Chg [] w0 w' := by
  obtain ⟨be', cap', A', w', h1, h2, h3, h4, h5⟩ := hv.app (ty := ty) E (hq.chg hc) hs (c := c) hm hB h63
  have hsz := hc.size
  refine ⟨be', cap', A', w', h1, h2, ?_, ?_⟩
  · rcases h3 with rfl | h3
    · exact hbe
    · exact .inr (by omega)
  · rcases hbe with rfl | hbe
    · exact hc.trans (h4.less h5)
    · exact hc.trans' h4 (by simpa using hbe)
end
/-! ### A value of many cells put into a row of cells, as the walk spells it -/
theorem fold_put_list {o : Nat} : ∀ (l : List Value) (C : Array Value) (j : Nat), o + j + l.length ≤ C.size → (l.zipIdx j).foldl (fun cs y => cs.setIfInBounds (o + y.snd) y.fst) C = (splice C.toList (o + j) l).toArray
  | [], C, j, _ => by simp [splice]
  | v :: l, C, j, h => by
    simp only [List.length_cons] at h
    rw [List.zipIdx_cons, List.foldl_cons, fold_put_list l _ (j + 1) (by simp; omega), Array.toList_setIfInBounds, ← Nat.add_assoc, splice_cons _ _ _ _ (by simp; omega)]
theorem fold_put (C v : Array Value) (o n : Nat) (hv : v.size = n) (h : o + n ≤ C.size) : Array.foldl (fun cs y => cs.setIfInBounds (o + y.snd) y.fst) C v.zipIdx 0 n = (splice C.toList o v.toList).toArray := by
  have e : n = v.zipIdx.size := by simp [hv]
  subst e
  rw [← Array.foldl_toList, Array.toList_zipIdx]
  have := fold_put_list (o := o) v.toList C 0 (by simpa using h)
  simpa using this
theorem fold_all (C v : Array Value) (n : Nat) (hv : v.size = n) (h : C.size = n) : Array.foldl (fun cs y => cs.setIfInBounds y.snd y.fst) C v.zipIdx 0 n = v := by
  have := fold_put C v 0 n hv (by omega)
  simp only [Nat.zero_add] at this
  rw [this, splice_all _ _ (by simp; omega), Array.toArray_toList]
theorem fold_vs (a0 a1 a2 a3 a4 a5 a6 a7 : Value) (l : List Int) (h : l.length = 8) : Array.foldl (fun cs y => cs.setIfInBounds y.snd y.fst) #[a0, a1, a2, a3, a4, a5, a6, a7] (vs l).zipIdx 0 8 = vs l :=
  fold_all _ _ _ (by rw [vs_size, h]) rfl
/-- Element i of a slice of one-cell elements. -/
theorem Sl.cell {w : World} {b o n : Nat} {xs : List Value} (h : Sl w 1 (some ⟨b, o, none⟩) n xs) {i : Nat} (hi : i < n) :
    ∃ c t f, w.heap[b]? = some (.cells c t f) ∧ c[o + i]? = xs[i]? := by
  obtain ⟨h1, h2⟩ := h
  rcases h2 with h2 | ⟨b', o', c, t, f, he, hb, hx⟩
  · omega
  · injection he with he; injection he with h3 h4; subst h3; subst h4
    refine ⟨c, t, f, hb, ?_⟩
    rw [← hx, Nat.mul_one, List.getElem?_take_of_lt hi, List.getElem?_drop, Array.getElem?_toList]
/-- Element i of a slice, cell by cell and piece by piece. -/
theorem Sl.elem {w : World} {size b o n : Nat} {xs ys : List Value} (h0 : 0 < size) (h : Sl w size (some ⟨b, o, none⟩) n xs) {i : Nat} (hi : i < n) (hy : (xs.drop (i * size)).take size = ys) :
    ∃ c t f, w.heap[b]? = some (.cells c t f) ∧ (∀ d, d < size → c[o + i * size + d]? = ys[d]?) ∧ ∀ d m, d + m ≤ size → rowIn (some (.cells c t f)) (o + i * size + d) m = true ∧ rowPart (some (.cells c t f)) (o + i * size + d) m = ((ys.drop d).take m).toArray := by
  obtain ⟨h1, h2⟩ := h
  rcases h2 with h2 | ⟨b', o', c, t, f, he, hb, hx⟩
  · omega
  · injection he with he; injection he with h3 h4; subst h3; subst h4; subst hy
    have hle : (i + 1) * size ≤ n * size := Nat.mul_le_mul_right _ (by omega)
    rw [Nat.add_mul] at hle
    have hlen := congrArg List.length hx
    simp only [List.length_take, List.length_drop, Array.length_toList] at hlen
    refine ⟨c, t, f, hb, fun d hd => ?_, fun d m hdm => ⟨?_, ?_⟩⟩
    · rw [← hx, List.getElem?_take_of_lt hd, List.getElem?_drop, List.getElem?_take_of_lt (by omega), List.getElem?_drop, Array.getElem?_toList]
      congr 1; omega
    · rw [rowIn_some]
      exact decide_eq_true (show o + i * size + d + m ≤ c.size by omega)
    · rw [rowPart_some, ← hx]
      simp only [List.drop_take, List.take_take, List.drop_drop]
      have e1 : min m (min (size - d) (n * size - i * size - d)) = m := by omega
      have e2 : min (min m (size - d)) (n * size - i * size - d) = m := by omega
      first
        | rw [e1]
        | rw [e2]
        | skip
      congr 2
      all_goals (try omega)
end Go.Proofs.YtcjoinhngdfdmaaGreatDoor
end
section
namespace Go.Proofs.YtcjoinhngdfdmaaGreatDoor
open Go.RowKit
set_option linter.unusedVariables false
section
variable {α : Type} {enc : α → List Value} {k bytes : Nat} {P : Program} {t ty e : TypeId} {z : Value}
/-- A block's cells: some that are gone, elements, then others. -/
def sqo (enc : α → List Value) (p : List Value) (xs : List α) (r : List Value) : Array Value := (p ++ (cat enc xs ++ r)).toArray
theorem sqo_size (hk : ∀ a, (enc a).length = k) (p : List Value) (xs : List α) (r : List Value) : (sqo enc p xs r).size = p.length + xs.length * k + r.length := by simp [sqo, cat_length hk]; omega
theorem sqo_toList (p : List Value) (xs : List α) (r : List Value) : (sqo enc p xs r).toList = p ++ (cat enc xs ++ r) := by simp [sqo]
/-- A variable that is a slice of its own block be, from some place on (be is q where there is none yet). -/
def Vof (k : Nat) (e : TypeId) (enc : α → List Value) (w : World) (q be : Nat) (A : Option Addr) (cap : Nat) (xs : List α) : Prop :=
  (be = q ∧ A = none ∧ cap = 0 ∧ xs = []) ∨ (be ≠ q ∧ xs.length ≤ cap ∧ ∃ (o : Nat) (p r : List Value), A = some ⟨be, o, none⟩ ∧ p.length = o ∧ w.heap[be]? = some (.cells (sqo enc p xs r) e (0, 0)) ∧ cap * k ≤ xs.length * k + r.length)
theorem Vof.nil (k : Nat) (e : TypeId) (enc : α → List Value) (w : World) (q : Nat) : Vof k e enc w q q none 0 ([] : List α) := .inl ⟨rfl, rfl, rfl, rfl⟩
section
variable {w w' : World} {q be : Nat} {A : Option Addr} {cap : Nat} {xs : List α}
theorem Vof.le (h : Vof k e enc w q be A cap xs) : xs.length ≤ cap := by
  rcases h with ⟨_, _, rfl, rfl⟩ | ⟨_, h, _⟩
  · simp
  · exact h
theorem Vof.keep {l : List Nat} (h : Vof k e enc w q be A cap xs) (hc : Chg l w w') (hb : be ∉ l) : Vof k e enc w' q be A cap xs :=
  h.imp id fun ⟨h1, h2, o, p, r, h3, h4, h5, h6⟩ => ⟨h1, h2, o, p, r, h3, h4, hc.keep h5 hb, h6⟩
theorem Vof.old (h : Vof k e enc w q be A cap xs) (hq : Old w q) : Old w be := by
  rcases h with ⟨rfl, _⟩ | ⟨_, _, o, p, r, _, _, h5, _⟩
  · exact hq
  · exact Go.Proofs.YtcjoinhngdfdmaaGreatDoor.old h5
theorem Vof.sl (hk : ∀ a, (enc a).length = k) (h : Vof k e enc w q be A cap xs) : Sl w k A xs.length (cat enc xs) := by
  refine ⟨cat_length hk xs, ?_⟩
  rcases h with ⟨_, _, _, rfl⟩ | ⟨_, _, o, p, r, rfl, rfl, h5, _⟩
  · exact .inl rfl
  · refine .inr ⟨be, _, _, e, (0, 0), rfl, h5, ?_⟩
    rw [sqo_toList, List.drop_append_of_le_length (Nat.le_refl _), List.drop_eq_nil_of_le (Nat.le_refl _), List.nil_append, List.take_append_of_le_length (by rw [cat_length hk]; exact Nat.le_refl _), List.take_of_length_le (by rw [cat_length hk]; exact Nat.le_refl _)]
/-- The place behind the first element, as the program reckons it. -/
def behind (k : Nat) (A : Option Addr) (cap : Nat) : Option Addr := if cap = 1 then A else A.map (·.add (1 * k))
/-- Cut at the head. -/
theorem Vof.tail {x : α} {xs : List α} (hk : ∀ a, (enc a).length = k) (h : Vof k e enc w q be A cap (x :: xs)) : Vof k e enc w q be (behind k A cap) (cap - 1) xs := by
  rcases h with ⟨_, _, _, h⟩ | ⟨h1, h2, o, p, r, rfl, rfl, h5, h6⟩
  · cases h
  · simp only [List.length_cons] at h2 h6
    rw [Nat.add_mul] at h6
    have hm : (cap - 1) * k + 1 * k = cap * k := by rw [← Nat.add_mul]; congr 1; omega
    refine .inr ⟨h1, by omega, ?_⟩
    unfold behind
    split
    · rename_i h0
      have e0 : xs = [] := List.eq_nil_of_length_eq_zero (by omega)
      subst e0
      refine ⟨_, p, enc x ++ r, rfl, rfl, ?_, by rw [h0]; simp⟩
      rw [h5]
      simp [sqo, cat]
    · refine ⟨p.length + 1 * k, p ++ enc x, r, by rw [Option.map_some, Addr.add_mid], by simp [hk], ?_, by omega⟩
      rw [h5]
      simp [sqo, cat_cons]
/-- 'x[1:]', closed to the walk. -/
def slS (t : TypeId) (x : Value) (lo hi mx : Option Value) : Sem Value := Instr.slice t x lo hi mx
def slR (P : Program) (t : TypeId) (x : Value) (lo hi mx : Option Value) (w : World) : Result Value := (Instr.slice t x lo hi mx).run P w
theorem slice_slS (t : TypeId) (x : Value) (lo hi mx : Option Value) : Instr.slice t x lo hi mx = slS t x lo hi mx := rfl
theorem run_slS (P : Program) (t : TypeId) (x : Value) (lo hi mx : Option Value) (w : World) : (slS t x lo hi mx).run P w = slR P t x lo hi mx w := rfl
/-- The first element. -/
theorem Vof.first {x : α} {xs : List α} (hk : ∀ a, (enc a).length = k) (h : Vof k e enc w q be A cap (x :: xs)) :
    be ≠ q ∧ ∃ (o : Nat) (C : Array Value), A = some ⟨be, o, none⟩ ∧ w.heap[be]? = some (.cells C e (0, 0)) ∧ rowIn (some (.cells C e (0, 0))) o k = true ∧ rowPart (some (.cells C e (0, 0))) o k = (enc x).toArray := by
  rcases h with ⟨_, _, _, h⟩ | ⟨h1, h2, o, p, r, rfl, rfl, h5, h6⟩
  · cases h
  · refine ⟨h1, _, _, rfl, h5, ?_, ?_⟩
    · rw [rowIn_some, sqo_size hk]
      refine decide_eq_true (show _ ≤ _ from ?_)
      simp only [List.length_cons, Nat.add_mul]; omega
    · rw [rowPart_some, sqo_toList, List.drop_append_of_le_length (Nat.le_refl _), List.drop_eq_nil_of_le (Nat.le_refl _), List.nil_append, cat_cons, List.append_assoc, List.take_append_of_le_length (by rw [hk]; exact Nat.le_refl _), List.take_of_length_le (by rw [hk]; exact Nat.le_refl _)]
end
/-- Elements appended: none, into the room that there is, into a new block. -/
theorem Vof.app (E : Elt P t e k bytes z enc) {w : World} {q be : Nat} {A : Option Addr} {cap : Nat} {xs : List α} (hv : Vof k e enc w q be A cap xs) (hq : Old w q)
    {B : Option Addr} {m c : Nat} {ys : List α} (hs : Sl w k B m (cat enc ys)) (hm : ys.length = m) (hB : (xs.length + m) * bytes ≤ 140737488355328) (h63 : xs.length + m ≤ maxLen) :
    ∃ (be' cap' : Nat) (A' : Option Addr) (w' : World), appR P t ty #[.slice A xs.length cap, .slice B m c] w = .ok (.slice A' (xs.length + m) cap') w' ∧ Vof k e enc w' q be' A' cap' (xs ++ ys) ∧ (be' = be ∨ w.heap.size ≤ be') ∧ Chg [be] w w' ∧ w'.heap[q]? = w.heap[q]? := by
  obtain ⟨i0, hi0, hz0, hz1, hz2⟩ := info_parts E.info
  subst hz1
  subst hz2
  have h63' : xs.length + m ≤ 9223372036854775807 := by simp only [maxLen] at h63; omega
  rcases Nat.eq_zero_or_pos m with h0 | h0
  · subst h0
    obtain rfl : ys = [] := List.eq_nil_of_length_eq_zero hm
    have hfc := run_firstCells_sl (P := P) w i0.size 0 B 0 c [] ⟨by simp, .inl rfl⟩
    refine ⟨be, cap, A, w, ?_, by simpa using hv, .inl rfl, Chg.refl _ _, rfl⟩
    have hle := hv.le
    unfold appR
    cases A with
    | none => simp [Builtin.append_, run_underlying E.slice, sizeOf, typeInfo, hi0, Builtin.lenOf, hfc, hle]
    | some a => simp [Builtin.append_, run_underlying E.slice, sizeOf, typeInfo, hi0, Builtin.lenOf, hfc, hle, storeCells]
  · obtain ⟨b, o, rfl⟩ := hs.addr h0
    have hcells : ∀ j v, (cat enc ys)[j]? = some v → w.cell? ((⟨b, o, none⟩ : Addr).add j) = some v := hs.cells
    have hlen : (cat enc ys).length = m * i0.size := hs.1
    have holdS := hv.sl E.len
    rcases hv with ⟨rfl, rfl, rfl, rfl⟩ | ⟨hne, hle, o1, p, r, rfl, rfl, hb, hr⟩
    · have := run_append_nil (P := P) w t ty e i0 z E.slice hi0 hz0 ⟨b, o, none⟩ m c (cat enc ys) hlen hcells h0 (by rw [List.length_nil, Nat.zero_add] at h63'; omega) (by rw [List.length_nil, Nat.zero_add] at hB; omega)
      have hge := grownCap_ge w m 0 e
      refine ⟨w.heap.size, grownCap w m 0 e, some ⟨w.heap.size, 0, none⟩, _, by simpa [appR] using this, ?_, .inr (Nat.le_refl _), (Chg.refl _ _).drew.alloc _, ?_⟩
      · refine .inr ⟨by have := hq.lt; omega, by simp [hm]; exact hge, 0, [], (Builtin.zeroCells z.cells (grownCap w m 0 e - m)).toList, rfl, rfl, ?_, ?_⟩
        · rw [heap_alloc]
          have h2 : w.drew.heap[w.heap.size]? = none := Array.getElem?_eq_none (Nat.le_refl _)
          have h3 : w.heap.size = w.drew.heap.size := rfl
          rw [h2, if_pos h3]
          simp [sqo]
        · simp only [List.nil_append, hm, Array.length_toList, size_zeroCells, E.zero]
          rw [← Nat.add_mul]; apply Nat.mul_le_mul_right; omega
      · rw [heap_alloc, heap_drew, if_neg (by have h1 := hq.lt; have h2 : w.drew.heap.size = w.heap.size := rfl; omega), Option.or_none]
    · by_cases hroom : xs.length + m ≤ cap
      · have hmul : (xs.length + m) * i0.size ≤ cap * i0.size := Nat.mul_le_mul_right _ hroom
        rw [Nat.add_mul] at hmul
        have hsz : (sqo enc p xs r).size = p.length + xs.length * i0.size + r.length := sqo_size E.len p xs r
        have hrow : rowHas (w.heap[be]?) (p.length + xs.length * i0.size) (cat enc ys).length = true := by
          rw [hb, rowHas_some, hsz, hlen]
          exact decide_eq_true (show _ ≤ _ by omega)
        have hr2 := run_append_room_cells (P := P) w t ty e i0 E.slice hi0 be p.length xs.length cap ⟨b, o, none⟩ m c (cat enc ys) hlen hcells (cat_one_cell E.one ys) hroom
          (by intro j hj; rw [cell_row, hb, rowCell_some]; simp; rw [hsz]; omega)
          (by intro j hj; rw [frozen_row, hb, rowFrozen_some])
        refine ⟨be, cap, _, _, hr2, .inr ⟨hne, by simp [hm, hroom], p.length, p, r.drop (m * i0.size), rfl, rfl, ?_, ?_⟩, .inl rfl, Chg.setCells be (.inl (by simp)) _ _ _ (Chg.refl _ _), ?_⟩
        · rw [heap_setCells _ _ _ _ _ hrow, if_pos rfl, hb, rowPut_some, sqo_toList]
          congr 2
          unfold sqo splice
          congr 1
          have e1 : (cat enc xs).length = xs.length * i0.size := cat_length E.len xs
          have e2 : (p ++ (cat enc xs ++ r)).take (p.length + xs.length * i0.size) = p ++ cat enc xs := by
            rw [← List.append_assoc, List.take_append_of_le_length (by simp; omega), List.take_of_length_le (by simp; omega)]
          have e3 : (p ++ (cat enc xs ++ r)).drop (p.length + xs.length * i0.size + m * i0.size) = r.drop (m * i0.size) := by
            rw [← List.append_assoc, List.drop_append, List.drop_eq_nil_of_le (by simp; omega), List.nil_append]
            congr 1
            simp [e1]
          rw [List.toList_toArray, hlen, e2, e3, cat_append]
          simp only [List.append_assoc]
        · simp only [List.length_append, hm, List.length_drop]
          rw [Nat.add_mul]; omega
        · rw [heap_setCells _ _ _ _ _ hrow, if_neg (Ne.symm hne)]
      · have hgr := run_append_grow (P := P) w t ty e i0 z E.slice hi0 hz0 ⟨be, p.length, none⟩ xs.length cap (cat enc xs) (cat_length E.len xs) holdS.cells ⟨b, o, none⟩ m c (cat enc ys) hlen hcells (by omega) (by omega) (growslice_fits (by omega) hB)
        have hge := grownCap_ge w (xs.length + m) cap e
        refine ⟨w.heap.size, grownCap w (xs.length + m) cap e, _, _, hgr, ?_, .inr (Nat.le_refl _), (Chg.refl _ _).drew.alloc _, ?_⟩
        · refine .inr ⟨by have := hq.lt; omega, by simp [hm]; exact hge, 0, [], (Builtin.zeroCells z.cells (grownCap w (xs.length + m) cap e - (xs.length + m))).toList, rfl, rfl, ?_, ?_⟩
          · rw [heap_alloc]
            have h2 : w.drew.heap[w.heap.size]? = none := Array.getElem?_eq_none (Nat.le_refl _)
            have h3 : w.heap.size = w.drew.heap.size := rfl
            rw [h2, if_pos h3]
            simp [sqo, cat_append]
          · simp only [List.length_append, hm, Array.length_toList, size_zeroCells, E.zero]
            rw [← Nat.add_mul]; apply Nat.mul_le_mul_right; omega
        · rw [heap_alloc, heap_drew, if_neg (by have h1 := hq.lt; have h2 : w.drew.heap.size = w.heap.size := rfl; omega), Option.or_none]
end
end Go.Proofs.YtcjoinhngdfdmaaGreatDoor
end
section
namespace Go.Proofs.YtcjoinhngdfdmaaGreatDoor
open Go.RowKit
set_option linter.unusedVariables false

/-- A message. -/
structure Ms where
  kd : Int
  li : Int
  di : Bool
  ke : Bool
  l : List Int
  h : l.length = 8
def Ms.enc (m : Ms) : List Value := .int .i64 m.kd :: .int .i64 m.li :: .bool m.di :: .bool m.ke :: m.l.map (Value.int .u64)
theorem Ms.len (m : Ms) : (Ms.enc m).length = 12 := by simp [Ms.enc, m.h]
theorem Ms.one (m : Ms) : ∀ v ∈ Ms.enc m, v.oneCell' = true := by
  intro v hv
  simp only [Ms.enc, List.mem_cons, List.mem_map] at hv
  rcases hv with rfl | rfl | rfl | rfl | ⟨x, _, rfl⟩ <;> rfl
/-- No message. -/
def msZ : Ms := ⟨0, 0, false, false, [0, 0, 0, 0, 0, 0, 0, 0], rfl⟩
/-- Its cells. -/
def msc (m : Ms) : Array Value := (Ms.enc m).toArray
def msV : Value := .agg (msc msZ)
theorem msV_size : msV.cells.size = 12 := rfl
theorem msV_one : ∀ v ∈ msV.cells, v.oneCell' = true := by intro v hv; exact Ms.one msZ v (by simpa [msV, Value.cells, msc] using hv)
theorem msc_size (m : Ms) : (msc m).size = 12 := by simp [msc, Ms.len]
theorem msc_one (m : Ms) : allOne (msc m) := allOne_list _ (List.all_eq_true.2 (Ms.one m))
theorem msc_kd (m : Ms) : (msc m)[0]? = some (.int .i64 m.kd) := by simp [msc, Ms.enc]
theorem msc_li (m : Ms) : (msc m)[1]? = some (.int .i64 m.li) := by simp [msc, Ms.enc]
theorem msc_di (m : Ms) : (msc m)[2]? = some (.bool m.di) := by simp [msc, Ms.enc]
theorem msc_ke (m : Ms) : (msc m)[3]? = some (.bool m.ke) := by simp [msc, Ms.enc]
theorem msc_part (m : Ms) (t : TypeId) (f : Nat × Nat) : rowPart (some (.cells (msc m) t f)) 4 8 = vs m.l := by
  rw [rowPart_some]
  have : m.l.length = 8 := m.h
  simp [msc, Ms.enc, vs, List.take_of_length_le, this]
theorem msc_in (m : Ms) (t : TypeId) (f : Nat × Nat) : rowIn (some (.cells (msc m) t f)) 4 8 = true := by
  rw [rowIn_some, msc_size]; exact decide_eq_true (show 4 + 8 ≤ 12 by omega)
theorem fold_msc (C : Array Value) (m : Ms) (h : C.size = 12) : Array.foldl (fun cs y => cs.setIfInBounds y.snd y.fst) C (msc m).zipIdx 0 12 = msc m := fold_all _ _ _ (msc_size m) h
/-- A message that was built of its kind, its line and its marks. -/
def ms4 (kd li : Int) (di ke : Bool) : Ms := ⟨kd, li, di, ke, [0, 0, 0, 0, 0, 0, 0, 0], rfl⟩
theorem ms4_lit (kd li : Int) (di ke : Bool) : (#[.int .i64 kd, .int .i64 li, .bool di, .bool ke, .int .u64 0, .int .u64 0, .int .u64 0, .int .u64 0, .int .u64 0, .int .u64 0, .int .u64 0, .int .u64 0] : Array Value) = msc (ms4 kd li di ke) := rfl
theorem Ms.same {a b : Ms} (h1 : a.kd = b.kd) (h2 : a.li = b.li) (h3 : a.di = b.di) (h4 : a.ke = b.ke) (h5 : a.l = b.l) : a = b := by
  cases a; cases b; simp_all
instance : DecidableEq Ms := fun a b => if h : a.kd = b.kd ∧ a.li = b.li ∧ a.di = b.di ∧ a.ke = b.ke ∧ a.l = b.l then isTrue (Ms.same h.1 h.2.1 h.2.2.1 h.2.2.2.1 h.2.2.2.2) else isFalse (fun e => h (by subst e; exact ⟨rfl, rfl, rfl, rfl, rfl⟩))

/-! ### Which way a kind goes; which messages have a form -/
def asksB (k : Int) : Bool := decide (1 ≤ k) && decide (k ≤ 5)
def answersB (k : Int) : Bool := decide (6 ≤ k) && decide (k ≤ 7)
def tellsB (k : Int) : Bool := decide (8 ≤ k) && decide (k ≤ 14)
def kindB (k : Int) : Bool := decide (1 ≤ k) && decide (k ≤ 14)
def lineB (i : Int) : Bool := decide (0 ≤ i) && decide (i ≤ 63)
def mayD (k : Int) : Bool := k == 3 || k == 6 || k == 7
def mayK (k : Int) : Bool := k == 7
def mayW (k : Int) : Bool := k == 8 || k == 9 || k == 10
def mg (m : Ms) : Bool := kindB m.kd && lineB m.li && (!m.di || mayD m.kd) && (!m.ke || mayK m.kd) && (mayW m.kd || m.di || m.l == [0, 0, 0, 0, 0, 0, 0, 0])
/-- What each kind may have, as it stands in memory. -/
def tabRow (k : Int) : List Value := [.bool (mayD k), .bool (mayK k), .bool (mayW k)]
def tabL : List Value := ((List.range 15).map fun k : Nat => tabRow k).flatten
def Tab (w : World) : Prop := ∃ t f, w.heap[1]? = some (.cells tabL.toArray t f)
theorem Tab.keep {w w' : World} {l : List Nat} (h : Tab w) (hc : Chg l w w') (h0 : 1 ∉ l) : Tab w' := by
  obtain ⟨t, f, h⟩ := h
  exact ⟨t, f, hc.keep h h0⟩
theorem Tab.old {w : World} (h : Tab w) : Old w 1 := by
  obtain ⟨t, f, h⟩ := h
  exact Go.Proofs.YtcjoinhngdfdmaaGreatDoor.old h
theorem tab_row (k : Nat) (h : k < 15) (t : TypeId) (f : Nat × Nat) : rowIn (some (.cells tabL.toArray t f)) (k * 3) 3 = true ∧ rowPart (some (.cells tabL.toArray t f)) (k * 3) 3 = #[.bool (mayD k), .bool (mayK k), .bool (mayW k)] := by
  have : k = 0 ∨ k = 1 ∨ k = 2 ∨ k = 3 ∨ k = 4 ∨ k = 5 ∨ k = 6 ∨ k = 7 ∨ k = 8 ∨ k = 9 ∨ k = 10 ∨ k = 11 ∨ k = 12 ∨ k = 13 ∨ k = 14 := by omega
  rcases this with rfl | rfl | rfl | rfl | rfl | rfl | rfl | rfl | rfl | rfl | rfl | rfl | rfl | rfl | rfl <;> exact ⟨rfl, rfl⟩

/-! ### What calls of a queue answer and leave -/
end Go.Proofs.YtcjoinhngdfdmaaGreatDoor
end
section
namespace Go.Proofs.YtcjoinhngdfdmaaGreatDoor
open Go.RowKit
set_option linter.unusedVariables false

/-- A line that will be written. -/
structure Ent where
  pos : Nat
  l : List Int
  h : l.length = 8
def Ent.enc (e : Ent) : List Value := .int .i64 e.pos :: e.l.map (Value.int .u64)
theorem Ent.len (e : Ent) : (Ent.enc e).length = 9 := by simp [Ent.enc, e.h]
theorem Ent.one (e : Ent) : ∀ v ∈ Ent.enc e, v.oneCell' = true := by
  intro v hv
  simp only [Ent.enc, List.mem_cons, List.mem_map] at hv
  rcases hv with rfl | ⟨x, _, rfl⟩ <;> rfl
/-- Its cells. -/
def entc (e : Ent) : Array Value := (Ent.enc e).toArray
theorem entc_size (e : Ent) : (entc e).size = 9 := by simp [entc, Ent.len]
theorem entc_one (e : Ent) : allOne (entc e) := allOne_list _ (List.all_eq_true.2 (Ent.one e))
theorem entc_pos (e : Ent) : (entc e)[0]? = some (.int .i64 e.pos) := by simp [entc, Ent.enc]
theorem entc_part (e : Ent) (t : TypeId) (f : Nat × Nat) : rowPart (some (.cells (entc e) t f)) 1 8 = vs e.l := by
  rw [rowPart_some]
  have : e.l.length = 8 := e.h
  simp [entc, Ent.enc, vs, List.take_of_length_le, this]
theorem entc_in (e : Ent) (t : TypeId) (f : Nat × Nat) : rowIn (some (.cells (entc e) t f)) 1 8 = true := by
  rw [rowIn_some, entc_size]; exact decide_eq_true (show 1 + 8 ≤ 9 by omega)
theorem entc_made (e : Ent) : (#[.int .i64 (e.pos : Int)] : Array Value) ++ vs e.l = entc e := by simp [entc, Ent.enc, vs]

/-- As the walk spells it. -/
theorem fold_ent (e : Ent) : Array.foldl (fun cs y => cs.setIfInBounds (1 + y.snd) y.fst) #[.int .i64 e.pos, .int .u64 0, .int .u64 0, .int .u64 0, .int .u64 0, .int .u64 0, .int .u64 0, .int .u64 0, .int .u64 0] (vs e.l).zipIdx 0 8 = entc e := by
  rw [fold_put _ _ 1 8 (by rw [vs_size, e.h]) (by simp)]
  have : e.l.length = 8 := e.h
  simp [splice, vs, entc, Ent.enc, this]
theorem fold_entc (C : Array Value) (e : Ent) (h : C.size = 9) : Array.foldl (fun cs y => cs.setIfInBounds y.snd y.fst) C (entc e).zipIdx 0 9 = entc e := fold_all _ _ _ (entc_size e) h
theorem getElem?_splice {α : Type} (xs l : List α) (o j : Nat) (h : o + l.length ≤ xs.length) : (splice xs o l)[j]? = if j < o then xs[j]? else if j < o + l.length then l[j - o]? else xs[j]? := by
  unfold splice
  have e1 : (xs.take o).length = o := by simp; omega
  split
  · rename_i h1
    rw [List.append_assoc, List.getElem?_append_left (by omega), List.getElem?_take_of_lt h1]
  · split
    · rename_i h1 h2
      rw [List.append_assoc, List.getElem?_append_right (by omega), e1, List.getElem?_append_left (by omega)]
    · rename_i h1 h2
      rw [List.getElem?_append_right (by simp; omega), List.getElem?_drop]
      congr 1
      simp; omega
theorem lnPut_comm (xs a b : List Int) (i j : Nat) (hij : i ≠ j) (ha : a.length = 8) (hb : b.length = 8) (hi : Fit (i * 8) 8 xs.length) (hj : Fit (j * 8) 8 xs.length) : lnPut (lnPut xs i a) j b = lnPut (lnPut xs j b) i a := by
  have h1 := hi.out
  have h2 := hj.out
  have l1 := lnPut_length xs i a hi ha
  have l2 := lnPut_length xs j b hj hb
  apply List.ext_getElem?
  intro k
  unfold lnPut at *
  rw [getElem?_splice _ _ _ _ (by rw [l1]; omega), getElem?_splice _ _ _ _ (by omega), getElem?_splice _ _ _ _ (by rw [l2]; omega), getElem?_splice _ _ _ _ (by omega)]
  rw [ha, hb]
  rcases Nat.lt_or_gt_of_ne hij with h | h <;> (repeat' split) <;> first | rfl | omega

/-- Lines with entries laid over them, the eldest first. -/
def over (xs : List Int) (es : List Ent) : List Int := es.foldl (fun xs e => lnPut xs e.pos e.l) xs
theorem over_append (xs : List Int) (a b : List Ent) : over xs (a ++ b) = over (over xs a) b := by simp [over]
theorem over_cons (xs : List Int) (e : Ent) (b : List Ent) : over xs (e :: b) = over (lnPut xs e.pos e.l) b := rfl
theorem over_snoc (xs : List Int) (a : List Ent) (e : Ent) : over xs (a ++ [e]) = lnPut (over xs a) e.pos e.l := by rw [over_append]; rfl
/-- Each entry is of one of n lines. -/
def Lie (n : Nat) (es : List Ent) : Prop := ∀ e ∈ es, e.pos < n
theorem Lie.nil (n : Nat) : Lie n [] := fun _ h => by cases h
theorem Lie.snoc {n : Nat} {es : List Ent} (h : Lie n es) {e : Ent} (he : e.pos < n) : Lie n (es ++ [e]) := fun x hx => by
  rcases List.mem_append.1 hx with h1 | h1
  · exact h x h1
  · rw [List.mem_singleton.1 h1]; exact he
theorem Lie.sub {n : Nat} {es es' : List Ent} (h : Lie n es) (hs : ∀ e ∈ es', e ∈ es) : Lie n es' := fun x hx => h x (hs x hx)
theorem Lie.get {n : Nat} {es : List Ent} (h : Lie n es) {k : Nat} {e : Ent} (he : es[k]? = some e) : e.pos < n := h e (List.mem_of_getElem? he)
theorem fit_line {n i : Nat} {xs : List Int} (hx : xs.length = n * 8) (hi : i < n) : Fit (i * 8) 8 xs.length := by rw [hx]; unfold Fit; omega
theorem over_length {n : Nat} : ∀ (es : List Ent) (xs : List Int), xs.length = n * 8 → Lie n es → (over xs es).length = n * 8
  | [], xs, hx, _ => hx
  | e :: es, xs, hx, h => by
    rw [over_cons]
    exact over_length es _ (by rw [lnPut_length _ _ _ (fit_line hx (h e (by simp))) e.h, hx]) (h.sub (by intro x hx; simp [hx]))
theorem over_put {n : Nat} : ∀ (es : List Ent) (xs l : List Int) (i : Nat), xs.length = n * 8 → Lie n es → i < n → l.length = 8 → (∀ x ∈ es, x.pos ≠ i) → over (lnPut xs i l) es = lnPut (over xs es) i l
  | [], xs, l, i, _, _, _, _, _ => rfl
  | e :: es, xs, l, i, hx, h, hi, hl, hn => by
    have hf := fit_line hx (h e (by simp))
    have hfi := fit_line hx hi
    rw [over_cons, over_cons, lnPut_comm xs l e.l i e.pos (fun h2 => hn e (by simp) h2.symm) hl e.h hfi hf]
    exact over_put es _ l i (by rw [lnPut_length _ _ _ hf e.h, hx]) (h.sub (by intro x hx; simp [hx])) hi hl (fun x hx => hn x (by simp [hx]))
theorem cut_at {α : Type} {es : List α} {k : Nat} {e : α} (he : es[k]? = some e) : es = es.take k ++ e :: es.drop (k + 1) := by
  obtain ⟨hk, rfl⟩ := List.getElem?_eq_some_iff.1 he
  rw [← List.drop_eq_getElem_cons hk, List.take_append_drop]
theorem erase_at {α : Type} (es : List α) (k : Nat) : es.eraseIdx k = es.take k ++ es.drop (k + 1) := List.eraseIdx_eq_take_drop_succ es k
/-- The eldest entry of a line is written: what all are laid over is as it was. -/
theorem over_drain {n : Nat} {es : List Ent} {k : Nat} {e : Ent} (xs : List Int) (hx : xs.length = n * 8) (h : Lie n es) (he : es[k]? = some e) (hk : ∀ x ∈ es.take k, x.pos ≠ e.pos) : over (lnPut xs e.pos e.l) (es.eraseIdx k) = over xs es := by
  have hc := cut_at he
  have h1 : Lie n (es.take k) := h.sub (fun x hx => List.mem_of_mem_take hx)
  have e1 : over xs es = over (lnPut (over xs (es.take k)) e.pos e.l) (es.drop (k + 1)) := by
    conv => lhs; rw [hc]
    rw [over_append, over_cons]
  rw [e1, erase_at, over_append, over_put _ _ _ _ hx h1 (h.get he) e.h hk]
theorem take_all {α : Type} {p : α → Prop} {es : List α} {k : Nat} {e : α} (he : es[k]? = some e) (h : p e) (hd : ∀ x ∈ es.take k, p x) : ∀ x ∈ es.take (k + 1), p x := by
  obtain ⟨hk, rfl⟩ := List.getElem?_eq_some_iff.1 he
  rw [List.take_succ_eq_append_getElem hk]
  intro x hx
  rcases List.mem_append.1 hx with hx | hx
  · exact hd x hx
  · rw [List.mem_singleton.1 hx]; exact h
/-! ### Entry k in its block -/
section
variable {es : List Ent} {k : Nat} {e : Ent} (h : es[k]? = some e) (r : List Value) (t : TypeId) (f : Nat × Nat)
include h
end
/-! ### Integers in a block -/
def is (xs : List Int) : Array Value := (xs.map (Value.int .i64)).toArray
end Go.Proofs.YtcjoinhngdfdmaaGreatDoor
end
section
namespace Go.Proofs.YtcjoinhngdfdmaaGreatDoor
open Go.RowKit
set_option linter.unusedVariables false

/-- A slot: a line, or nothing. -/
structure Slt where
  st : Int
  li : Int
  l : List Int
  us : Int
  h : l.length = 8
def Slt.enc (s : Slt) : List Value := .int .i64 s.st :: .int .i64 s.li :: (s.l.map (Value.int .u64) ++ [.int .i64 s.us])
theorem Slt.len (s : Slt) : (Slt.enc s).length = 11 := by simp [Slt.enc, s.h]
theorem Slt.one (s : Slt) : ∀ v ∈ Slt.enc s, v.oneCell' = true := by
  intro v hv
  simp only [Slt.enc, List.mem_cons, List.mem_append, List.mem_map, List.not_mem_nil, or_false] at hv
  rcases hv with rfl | rfl | ⟨x, _, rfl⟩ | rfl <;> rfl
/-- No line. -/
def sltZ : Slt := ⟨0, 0, [0, 0, 0, 0, 0, 0, 0, 0], 0, rfl⟩
def sltV : Value := .agg (.int .i64 0 :: .int .i64 0 :: (List.replicate 8 (.int .u64 0) ++ [.int .i64 0])).toArray
theorem sltV_size : sltV.cells.size = 11 := rfl
theorem sltV_one : ∀ v ∈ sltV.cells, v.oneCell' = true := by intro v hv; simp [sltV, Value.cells] at hv; rcases hv with rfl | rfl | rfl <;> rfl
/-- Its cells. -/
def slc (s : Slt) : Array Value := (Slt.enc s).toArray
theorem slc_size (s : Slt) : (slc s).size = 11 := by simp [slc, Slt.len]
theorem slc_one (s : Slt) : allOne (slc s) := allOne_list _ (List.all_eq_true.2 (Slt.one s))
theorem slc_st (s : Slt) : (slc s)[0]? = some (.int .i64 s.st) := by simp [slc, Slt.enc]
theorem slc_li (s : Slt) : (slc s)[1]? = some (.int .i64 s.li) := by simp [slc, Slt.enc]
theorem enc_us (s : Slt) : (Slt.enc s)[10]? = some (.int .i64 s.us) := by
  have : s.l.length = 8 := s.h
  unfold Slt.enc
  rw [List.getElem?_cons_succ, List.getElem?_cons_succ, List.getElem?_append_right (by simp [this])]
  simp [this]
theorem slc_us (s : Slt) : (slc s)[10]? = some (.int .i64 s.us) := by rw [slc, List.getElem?_toArray, enc_us]
theorem enc_line (s : Slt) : ((Slt.enc s).drop 2).take 8 = s.l.map (Value.int .u64) := by
  have : s.l.length = 8 := s.h
  unfold Slt.enc
  rw [List.drop_succ_cons, List.drop_succ_cons, List.drop_zero, List.take_append_of_le_length (by simp [this]), List.take_of_length_le (by simp [this])]
theorem slc_part (s : Slt) (t : TypeId) (f : Nat × Nat) : rowPart (some (.cells (slc s) t f)) 2 8 = vs s.l := by
  rw [rowPart_some]
  unfold slc
  rw [List.toList_toArray, enc_line]; rfl
theorem slc_in (s : Slt) (t : TypeId) (f : Nat × Nat) : rowIn (some (.cells (slc s) t f)) 2 8 = true := by
  rw [rowIn_some, slc_size]; exact decide_eq_true (show 2 + 8 ≤ 11 by omega)
theorem slcZ : slc sltZ = #[.int .i64 0, .int .i64 0, .int .u64 0, .int .u64 0, .int .u64 0, .int .u64 0, .int .u64 0, .int .u64 0, .int .u64 0, .int .u64 0, .int .i64 0] := rfl

theorem fold_slt (st li z : Int) (l : List Int) (h : l.length = 8) : Array.foldl (fun cs y => cs.setIfInBounds (2 + y.snd) y.fst) #[.int .i64 st, .int .i64 li, .int .u64 0, .int .u64 0, .int .u64 0, .int .u64 0, .int .u64 0, .int .u64 0, .int .u64 0, .int .u64 0, .int .i64 z] (vs l).zipIdx 0 8 = slc ⟨st, li, l, z, h⟩ := by
  rw [fold_put _ _ 2 8 (by rw [vs_size, h]) (by simp)]
  simp [splice, vs, slc, Slt.enc, h]
theorem fold_slc (C : Array Value) (s : Slt) (h : C.size = 11) : Array.foldl (fun cs y => cs.setIfInBounds y.snd y.fst) C (slc s).zipIdx 0 11 = slc s := fold_all _ _ _ (slc_size s) h
theorem slc_set_us (s : Slt) (u : Int) : (slc s).setIfInBounds 10 (.int .i64 u) = slc ⟨s.st, s.li, s.l, u, s.h⟩ := by
  have h8 : s.l.length = 8 := s.h
  unfold slc Slt.enc
  rw [List.setIfInBounds_toArray, List.set_cons_succ, List.set_cons_succ, List.set_append_right _ _ (by simp [h8])]
  simp [h8]

/-! ### The first that is so -/
def hit (p : Slt → Bool) (ys : List Slt) : Int := if ys.findIdx p < ys.length then (ys.findIdx p : Nat) else -1
theorem findIdx_hit {α : Type} {p : α → Bool} {ys : List α} {k : Nat} {y : α} (h : ys[k]? = some y) (hp : p y = true) (hb : ∀ x ∈ ys.take k, p x = false) : ys.findIdx p = k := by
  obtain ⟨hk, rfl⟩ := List.getElem?_eq_some_iff.1 h
  refine (List.findIdx_eq hk).2 ⟨hp, fun j hj => ?_⟩
  have := hb ys[j] (List.mem_take_iff_getElem.2 ⟨j, by omega, rfl⟩)
  simpa using this
theorem hit_at {p : Slt → Bool} {ys : List Slt} {k : Nat} {y : Slt} (h : ys[k]? = some y) (hp : p y = true) (hb : ∀ x ∈ ys.take k, p x = false) : hit p ys = (k : Int) := by
  have hk := (List.getElem?_eq_some_iff.1 h).1
  unfold hit
  rw [findIdx_hit h hp hb, if_pos hk]
theorem hit_none {p : Slt → Bool} {ys : List Slt} (h : ∀ x ∈ ys, p x = false) : hit p ys = -1 := by
  unfold hit
  rw [if_neg]
  rw [List.findIdx_eq_length.2 (by intro x hx; simpa using h x hx)]
  omega
/-- Either one is, and all ahead of it are not, or none is. -/
theorem hit_or (p : Slt → Bool) (ys : List Slt) : (∃ (k : Nat) (y : Slt), hit p ys = (k : Int) ∧ ys.findIdx p = k ∧ ys[k]? = some y ∧ p y = true ∧ k < ys.length ∧ ∀ x ∈ ys.take k, p x = false) ∨ (hit p ys = -1 ∧ ys.findIdx p = ys.length ∧ ∀ x ∈ ys, p x = false) := by
  by_cases h : ys.findIdx p < ys.length
  · refine .inl ⟨ys.findIdx p, ys[ys.findIdx p], by unfold hit; rw [if_pos h], rfl, List.getElem?_eq_getElem h, List.findIdx_getElem, h, ?_⟩
    intro x hx
    obtain ⟨j, hj, rfl⟩ := List.mem_take_iff_getElem.1 hx
    have := List.not_of_lt_findIdx (p := p) (xs := ys) (i := j) (by omega)
    simpa using this
  · have e : ys.findIdx p = ys.length := Nat.le_antisymm List.findIdx_le_length (by omega)
    refine .inr ⟨by unfold hit; rw [if_neg h], e, ?_⟩
    have := List.findIdx_eq_length.1 e
    intro x hx
    simpa using this x hx
/-- This slot has that line; this one is empty. -/
def pLine (li : Int) (x : Slt) : Bool := x.st != 0 && x.li == li
def pFree (x : Slt) : Bool := x.st == 0
theorem pLine_yes {li : Int} {x : Slt} (h : pLine li x = true) : x.st ≠ 0 ∧ x.li = li := by simpa [pLine] using h

/-! ### Whose line may go -/
def atRest (st : Int) : Bool := decide (1 ≤ st) && decide (st ≤ 3)
def eldStep (a : Int × Int) (s : Slt) : Int × Int := if atRest s.st && (decide (a.1 < 0) || decide (s.us < a.2)) then (s.li, s.us) else a
def eldS (ys : List Slt) : Int × Int := ys.foldl eldStep (-1, 0)
def eld (ys : List Slt) : Int := (eldS ys).1
theorem eldS_take {ys : List Slt} {k : Nat} {y : Slt} (h : ys[k]? = some y) : eldS (ys.take (k + 1)) = eldStep (eldS (ys.take k)) y := by
  obtain ⟨hk, rfl⟩ := List.getElem?_eq_some_iff.1 h
  unfold eldS
  rw [List.take_succ_eq_append_getElem hk, List.foldl_append]; rfl

/-! ### Sets -/
def setOf (S : Nat) (li : Int) : Nat := li.toNat % S
/-- The slots of a set. -/
def seg (W : Nat) (xs : List Slt) (t : Nat) : List Slt := (xs.drop (t * W)).take W
theorem seg_length {S W : Nat} {xs : List Slt} (hx : xs.length = S * W) {t : Nat} (ht : t < S) : (seg W xs t).length = W := by
  have : t * W + W ≤ S * W := mul_lt_of ht
  simp [seg]; omega
theorem seg_get {W : Nat} (xs : List Slt) (t k : Nat) (hk : k < W) : (seg W xs t)[k]? = xs[t * W + k]? := by
  unfold seg
  rw [List.getElem?_take_of_lt hk, List.getElem?_drop]
/-- There are so many sets and ways, so many slots, each line in its own set. -/
structure Good (S W : Nat) (xs : List Slt) : Prop where
  sets : S = 1 ∨ S = 2 ∨ S = 4 ∨ S = 8
  way1 : 1 ≤ W
  way8 : W ≤ 8
  len : xs.length = S * W
  home : ∀ i x, xs[i]? = some x → x.st ≠ 0 → 0 ≤ x.li ∧ i / W = setOf S x.li
theorem Good.spos {S W : Nat} {xs : List Slt} (h : Good S W xs) : 0 < S := by have := h.sets; omega
theorem Good.s8 {S W : Nat} {xs : List Slt} (h : Good S W xs) : S ≤ 8 := by have := h.sets; omega
theorem Good.set_lt {S W : Nat} {xs : List Slt} (h : Good S W xs) (li : Int) : setOf S li < S := Nat.mod_lt _ h.spos
theorem Good.len64 {S W : Nat} {xs : List Slt} (h : Good S W xs) : xs.length ≤ 64 := by
  rw [h.len]; exact Nat.mul_le_mul h.s8 h.way8
theorem Good.seg_len {S W : Nat} {xs : List Slt} (h : Good S W xs) (li : Int) : (seg W xs (setOf S li)).length = W := seg_length h.len (h.set_lt li)
theorem Good.fit {S W : Nat} {xs : List Slt} (h : Good S W xs) (li : Int) : setOf S li * W + W ≤ S * W := mul_lt_of (h.set_lt li)
theorem div_of {i t k W : Nat} (hk : k < W) (h : i = t * W + k) : i / W = t := by
  subst h
  rw [Nat.mul_comm, Nat.mul_add_div (by omega), Nat.div_eq_of_lt hk, Nat.add_zero]
theorem mod_of {i t W : Nat} (hw : 0 < W) (h : i / W = t) : ∃ k, k < W ∧ i = t * W + k := by
  refine ⟨i % W, Nat.mod_lt _ hw, ?_⟩
  subst h
  have := Nat.div_add_mod i W
  rw [Nat.mul_comm] at this
  omega
/-- Where a line stands among all slots is where it stands in its set. -/
theorem Good.where {S W : Nat} {xs : List Slt} (h : Good S W xs) (li : Int) :
    (∃ (k : Nat) (y : Slt), (seg W xs (setOf S li)).findIdx (pLine li) = k ∧ xs.findIdx (pLine li) = setOf S li * W + k ∧ k < W ∧ xs[setOf S li * W + k]? = some y ∧ y.st ≠ 0 ∧ y.li = li ∧ 0 ≤ li ∧ hit (pLine li) (seg W xs (setOf S li)) = (k : Int) ∧ hit (pLine li) xs = ((setOf S li * W + k : Nat) : Int) ∧ setOf S li * W + k < xs.length) ∨
    (hit (pLine li) (seg W xs (setOf S li)) = -1 ∧ hit (pLine li) xs = -1 ∧ xs.findIdx (pLine li) = xs.length ∧ ∀ x ∈ xs, pLine li x = false) := by
  rcases hit_or (pLine li) xs with ⟨i, y, e1, e2, e3, e4, e5, e6⟩ | ⟨e1, e2, e3⟩
  · obtain ⟨h1, h2⟩ := pLine_yes e4
    obtain ⟨h3, h4⟩ := h.home i y e3 h1
    rw [h2] at h3 h4
    obtain ⟨k, hk, rfl⟩ := mod_of (by have := h.way1; omega) h4
    have hs : (seg W xs (setOf S li))[k]? = some y := by rw [seg_get _ _ _ hk]; exact e3
    have hb : ∀ x ∈ (seg W xs (setOf S li)).take k, pLine li x = false := by
      intro x hx
      obtain ⟨j, hj, rfl⟩ := List.mem_take_iff_getElem.1 hx
      have hjk : j < k := by omega
      have hjl : j < (seg W xs (setOf S li)).length := by omega
      have hxj : (seg W xs (setOf S li))[j]? = some (seg W xs (setOf S li))[j] := List.getElem?_eq_getElem hjl
      rw [seg_get _ _ _ (by omega)] at hxj
      obtain ⟨hl, he⟩ := List.getElem?_eq_some_iff.1 hxj
      exact e6 _ (List.mem_take_iff_getElem.2 ⟨setOf S li * W + j, by omega, he⟩)
    exact .inl ⟨k, y, findIdx_hit hs e4 hb, e2, hk, e3, h1, h2, h3, hit_at hs e4 hb, e1, e5⟩
  · refine .inr ⟨hit_none ?_, e1, e2, e3⟩
    intro x hx
    exact e3 x (List.mem_of_mem_drop (List.mem_of_mem_take hx))
/-- The first empty slot of a line's set. -/
theorem Good.room {S W : Nat} {xs : List Slt} (h : Good S W xs) (li : Int) :
    (∃ (k : Nat) (y : Slt), (seg W xs (setOf S li)).findIdx pFree = k ∧ k < W ∧ xs[setOf S li * W + k]? = some y ∧ y.st = 0 ∧ hit pFree (seg W xs (setOf S li)) = (k : Int) ∧ setOf S li * W + k < xs.length ∧ ∀ x ∈ (seg W xs (setOf S li)).take k, pFree x = false) ∨
    (hit pFree (seg W xs (setOf S li)) = -1 ∧ (seg W xs (setOf S li)).findIdx pFree = W ∧ ∀ x ∈ seg W xs (setOf S li), x.st ≠ 0) := by
  have hl := h.seg_len li
  rcases hit_or pFree (seg W xs (setOf S li)) with ⟨k, y, e1, e2, e3, e4, e5, e6⟩ | ⟨e1, e2, e3⟩
  · have hk : k < W := by omega
    rw [seg_get _ _ _ hk] at e3
    exact .inl ⟨k, y, e2, hk, e3, by simpa [pFree] using e4, e1, (List.getElem?_eq_some_iff.1 e3).1, e6⟩
  · refine .inr ⟨e1, by omega, fun x hx => ?_⟩
    simpa [pFree] using e3 x hx

/-! ### What each call answers, and leaves -/
/-- Where a line stands, or would. -/
def place (S W : Nat) (xs : List Slt) (li : Int) : Nat :=
  if xs.findIdx (pLine li) < xs.length then xs.findIdx (pLine li) else if (seg W xs (setOf S li)).findIdx pFree < W then setOf S li * W + (seg W xs (setOf S li)).findIdx pFree else xs.length
def badSet (li st : Int) : Prop := li < 0 ∨ st < 1 ∨ 9 < st
instance (li st : Int) : Decidable (badSet li st) := inferInstanceAs (Decidable (_ ∨ _ ∨ _))
def setVal (S W : Nat) (xs : List Slt) (li st : Int) : Int := if badSet li st then 1 else if place S W xs li < xs.length then 0 else 13
def setXs (S W : Nat) (xs : List Slt) (u li st : Int) (l : List Int) (h : l.length = 8) : List Slt := if badSet li st then xs else xs.set (place S W xs li) ⟨st, li, l, u + 1, h⟩
def setU (S W : Nat) (xs : List Slt) (u li st : Int) : Int := if badSet li st then u else if place S W xs li < xs.length then u + 1 else u
def Slt.use (x : Slt) (u : Int) : Slt := ⟨x.st, x.li, x.l, u, x.h⟩
def touchXs (xs : List Slt) (u li : Int) : List Slt := match xs[xs.findIdx (pLine li)]? with | some x => xs.set (xs.findIdx (pLine li)) (x.use (u + 1)) | none => xs
def touchU (xs : List Slt) (u li : Int) : Int := if xs.findIdx (pLine li) < xs.length then u + 1 else u
def dropVal (xs : List Slt) (li : Int) : Bool := decide (xs.findIdx (pLine li) < xs.length)
def dropXs (xs : List Slt) (li : Int) : List Slt := xs.set (xs.findIdx (pLine li)) sltZ
def findVal (xs : List Slt) (li : Int) : Slt := match xs[xs.findIdx (pLine li)]? with | some x => x | none => sltZ
def roomFree (S W : Nat) (xs : List Slt) (li : Int) : Bool := decide (0 ≤ li) && decide ((seg W xs (setOf S li)).findIdx pFree < W)
def roomVic (S W : Nat) (xs : List Slt) (li : Int) : Int := if li < 0 then -1 else if (seg W xs (setOf S li)).findIdx pFree < W then -1 else eld (seg W xs (setOf S li))
/-- Those that are not empty. -/
def live (xs : List Slt) : List Slt := xs.filter (fun x => x.st != 0)

theorem set_none {α : Type} (xs : List α) (a : α) : xs.set xs.length a = xs := List.set_eq_of_length_le (Nat.le_refl _)
theorem Good.put {S W : Nat} {xs : List Slt} (h : Good S W xs) (k : Nat) (x : Slt) (hx : x.st ≠ 0 → 0 ≤ x.li ∧ k / W = setOf S x.li) : Good S W (xs.set k x) := by
  refine ⟨h.sets, h.way1, h.way8, by rw [List.length_set, h.len], fun i y hy h0 => ?_⟩
  rw [List.getElem?_set] at hy
  split at hy
  · rename_i e
    subst e
    split at hy
    · injection hy with hy; subst hy; exact hx h0
    · cases hy
  · exact h.home i y hy h0
theorem Good.setXs {S W : Nat} {xs : List Slt} (h : Good S W xs) (u li st : Int) (l : List Int) (hl : l.length = 8) : Good S W (setXs S W xs u li st l hl) := by
  unfold Go.Proofs.YtcjoinhngdfdmaaGreatDoor.setXs
  split
  · exact h
  · rename_i hb
    have h0 : 0 ≤ li := by unfold badSet at hb; omega
    unfold place
    rcases h.where li with ⟨k, y, e1, e2, e3, e4, e5, e6, e7, e8, e9, e10⟩ | ⟨e1, e2, e3, e4⟩
    · rw [if_pos (by omega), e2]
      exact h.put _ _ (fun _ => ⟨h0, div_of e3 rfl⟩)
    · rw [if_neg (by omega)]
      split
      · rename_i h2
        exact h.put _ _ (fun _ => ⟨h0, div_of h2 rfl⟩)
      · rw [set_none]; exact h
theorem Good.touchXs {S W : Nat} {xs : List Slt} (h : Good S W xs) (u li : Int) : Good S W (touchXs xs u li) := by
  unfold Go.Proofs.YtcjoinhngdfdmaaGreatDoor.touchXs
  split
  · rename_i x hx
    exact h.put _ _ (fun h0 => h.home _ x hx h0)
  · exact h
theorem Good.dropXs {S W : Nat} {xs : List Slt} (h : Good S W xs) (li : Int) : Good S W (dropXs xs li) := h.put _ _ (fun h0 => absurd rfl h0)
theorem setU_le {S W : Nat} {xs : List Slt} {u li st : Int} : u ≤ setU S W xs u li st ∧ setU S W xs u li st ≤ u + 1 := by
  unfold setU; split <;> (try split) <;> omega
theorem touchU_le {xs : List Slt} {u li : Int} : u ≤ touchU xs u li ∧ touchU xs u li ≤ u + 1 := by
  unfold touchU; split <;> omega
/-- Slots of nothing. -/
theorem Good.new {S W : Nat} (h1 : S = 1 ∨ S = 2 ∨ S = 4 ∨ S = 8) (h2 : 1 ≤ W) (h3 : W ≤ 8) : Good S W (List.replicate (S * W) sltZ) := by
  refine ⟨h1, h2, h3, by simp, fun i x hx h0 => ?_⟩
  rw [List.getElem?_replicate] at hx
  split at hx
  · injection hx with hx; subst hx; exact absurd rfl h0
  · cases hx
theorem live_take {xs : List Slt} {k : Nat} {x : Slt} (h : xs[k]? = some x) : live (xs.take (k + 1)) = live (xs.take k) ++ (if x.st = 0 then [] else [x]) := by
  obtain ⟨hk, rfl⟩ := List.getElem?_eq_some_iff.1 h
  unfold live
  rw [List.take_succ_eq_append_getElem hk, List.filter_append]
  congr 1
  split <;> simp [*]
theorem live_le (xs : List Slt) : (live xs).length ≤ xs.length := List.length_filter_le _ _
/-! ### Slot k in its block -/
section
variable {xs : List Slt} {k : Nat} {x : Slt} (h : xs[k]? = some x) (r : List Value) (t : TypeId) (f : Nat × Nat)
include h
theorem slt_row : rowPart (some (.cells (sq Slt.enc xs r) t f)) (k * 11) 11 = slc x := by
  have := rowPart_sq Slt.len h r t f 0 11 (by omega)
  rw [Nat.add_zero] at this
  rw [this]
  simp [slc, Slt.len, List.take_of_length_le]
theorem slt_rowIn : rowIn (some (.cells (sq Slt.enc xs r) t f)) (k * 11) 11 = true := rowIn_sq Slt.len (List.getElem?_eq_some_iff.1 h).1 r t f 0 11 (by omega)
theorem slt_us : (sq Slt.enc xs r)[k * 11 + 10]? = some (.int .i64 x.us) := by
  rw [sq_cell Slt.len h r 10 (by omega), enc_us]
theorem slt_has : rowHas (some (.cells (sq Slt.enc xs r) t (0, 0))) (k * 11) 11 = true := by
  have hk := (List.getElem?_eq_some_iff.1 h).1
  have := mul_lt_of (k := 11) hk
  rw [rowHas_some, sq_size Slt.len]
  exact decide_eq_true (show _ ≤ _ by omega)
theorem slt_put (y : Slt) : rowPut (some (.cells (sq Slt.enc xs r) t f)) (k * 11) (slc y) = some (.cells (sq Slt.enc (xs.set k y) r) t f) := by
  have hk := (List.getElem?_eq_some_iff.1 h).1
  have := mul_lt_of (k := 11) hk
  have e : splice xs k [y] = xs.set k y := by unfold splice; rw [List.set_eq_take_append_cons_drop, if_pos hk]; simp
  rw [rowPut_some, sq_toList, ← e]
  unfold slc sq
  rw [List.toList_toArray, splice_append _ _ _ _ (by rw [Slt.len, cat_length Slt.len]; omega)]
  have := cat_splice Slt.len xs [y] k
  rw [cat_one] at this
  rw [this]
theorem slt_use (u : Int) : (sq Slt.enc xs r).setIfInBounds (k * 11 + 10) (.int .i64 u) = sq Slt.enc (xs.set k (x.use u)) r := by
  have hk := (List.getElem?_eq_some_iff.1 h).1
  have hm := mul_lt_of (k := 11) hk
  have h8 : x.l.length = 8 := x.h
  have e2 : (Slt.enc x).set 10 (.int .i64 u) = Slt.enc (x.use u) := by
    unfold Slt.enc Slt.use
    rw [List.set_cons_succ, List.set_cons_succ, List.set_append_right _ _ (by simp [h8])]
    simp [h8]
  have hl := cat_length Slt.len xs
  have ho := slt_put h r 3 (0, 0) (x.use u)
  rw [rowPut_some] at ho
  injection ho with ho
  injection ho with ho
  rw [← ho]
  apply Array.toList_inj.1
  rw [Array.toList_setIfInBounds, List.toList_toArray]
  apply List.ext_getElem?
  intro j
  have hxs : ∀ d, d < 11 → (sq Slt.enc xs r).toList[k * 11 + d]? = (Slt.enc x)[d]? := by
    intro d hd
    have := sq_cell Slt.len h r d hd
    rwa [← Array.getElem?_toList] at this
  have hsz : (sq Slt.enc xs r).toList.length = xs.length * 11 + r.length := by rw [Array.length_toList, sq_size Slt.len]
  rw [getElem?_splice _ _ _ _ (by rw [hsz]; unfold slc; rw [List.toList_toArray, Slt.len]; omega)]
  have hs11 : (slc (x.use u)).toList.length = 11 := by rw [Array.length_toList, slc_size]
  rw [hs11, List.getElem?_set]
  by_cases hj : k * 11 + 10 = j
  · subst hj
    rw [if_pos rfl, if_pos (by rw [hsz]; omega), if_neg (by omega), if_pos (by omega), show k * 11 + 10 - k * 11 = 10 by omega]
    unfold slc
    rw [List.toList_toArray, enc_us]; rfl
  · rw [if_neg hj]
    split
    · rfl
    · split
      · obtain ⟨d, rfl⟩ : ∃ d, j = k * 11 + d := ⟨j - k * 11, by omega⟩
        rw [hxs d (by omega), show k * 11 + d - k * 11 = d by omega]
        unfold slc
        rw [List.toList_toArray, ← e2, List.getElem?_set_ne (by omega)]
      · rfl
end
theorem made_slots (n : Nat) : madeCells sltV.cells (n * 11) = sq Slt.enc (List.replicate n sltZ) [] := by
  apply Array.ext
  · rw [sq_size Slt.len]; simp [madeCells]
  · intro i h1 h2
    have hi : i < n * 11 := by simpa [madeCells] using h1
    obtain ⟨k, d, hk, hd, rfl⟩ : ∃ k d, k < n ∧ d < 11 ∧ i = k * 11 + d := ⟨i / 11, i % 11, by omega, Nat.mod_lt _ (by omega), by omega⟩
    have h3 : (List.replicate n sltZ)[k]? = some sltZ := by rw [List.getElem?_replicate, if_pos hk]
    have h4 := sq_cell Slt.len h3 [] d hd
    rw [Array.getElem?_eq_getElem h2] at h4
    have e11 : sltV.cells.size = 11 := rfl
    have hmod : (k * 11 + d) % 11 = d := by omega
    simp only [madeCells, Array.getElem_map, Array.getElem_range]
    have h5 : (sltV.cells)[d]? = (Slt.enc sltZ)[d]? := by rw [show sltV.cells = (Slt.enc sltZ).toArray from rfl, List.getElem?_toArray]
    rw [← h4, Array.getElem?_eq_getElem (by rw [e11]; exact hd)] at h5
    rw [e11, hmod, getElem!_pos sltV.cells d (by rw [e11]; exact hd)]
    exact Option.some.inj h5
end Go.Proofs.YtcjoinhngdfdmaaGreatDoor
end
section
namespace Go.Proofs.YtcjoinhngdfdmaaGreatDoor
open Go.RowKit
set_option linter.unusedVariables false
set_option maxHeartbeats 1000000

/-- Slots, and how often they were used. -/
abbrev Sta := List Slt × Int
def zl8 : List Int := [0, 0, 0, 0, 0, 0, 0, 0]
def mayR (st : Int) : Bool := atRest st || st == 6
def mayWr (st : Int) : Bool := st == 2 || st == 3
def isLn (li : Int) : Bool := decide (0 ≤ li) && decide (li < 64)
def isWd (k : Int) : Bool := decide (0 ≤ k) && decide (k < 8)
def restB (x : Slt) : Bool := x.st == 0 || atRest x.st
/-- Nothing is on its way. -/
def idleB (xs : List Slt) : Bool := xs.all restB
def ownsB (xs : List Slt) (li : Int) : Bool := mayWr (findVal xs li).st
/-- A message of a slot's line, with its words, if these were written here. -/
def toldM (kd : Int) (x : Slt) (ke : Bool) : Ms := if x.st = 3 ∨ x.st = 9 then ⟨kd, x.li, true, ke, x.l, x.h⟩ else ms4 kd x.li false ke
/-- What a message of a kind makes of a slot in a state. -/
def tb (kd st : Int) : Int :=
  if kd = 8 then (if st = 4 then 1 else 0)
  else if kd = 9 then (if st = 4 then 2 else 0)
  else if kd = 10 then (if st = 5 ∨ st = 6 then 2 else 0)
  else if kd = 11 then (if st = 7 ∨ st = 8 ∨ st = 9 then 10 else 0)
  else if kd = 12 then (if st = 1 ∨ st = 2 ∨ st = 3 then 10 else if st = 6 then 5 else if st = 7 ∨ st = 9 then 8 else 0)
  else if kd = 13 then (if st = 2 ∨ st = 3 then 1 else if st = 7 ∨ st = 9 then 8 else 0)
  else if kd = 14 then 11 else 0
def wordsL (m : Ms) (x : Slt) (nx : Int) : List Int := if nx = 5 ∨ nx = 8 then zl8 else if m.kd = 13 then x.l else m.l
theorem wordsL_len (m : Ms) (x : Slt) (nx : Int) : (wordsL m x nx).length = 8 := by
  unfold wordsL
  split
  · rfl
  · split
    · exact x.h
    · exact m.h
def answersL (kd : Int) (x : Slt) (nx : Int) : List Ms := if kd = 12 then [toldM 6 x false] else if kd = 13 then [toldM 7 x (nx == 1)] else []
section
variable (S N : Nat)
def setS (s : Sta) (li st : Int) (l : List Int) (h : l.length = 8) : Sta := (setXs S N s.1 s.2 li st l h, setU S N s.1 s.2 li st)
def touchS (s : Sta) (li : Int) : Sta := (touchXs s.1 s.2 li, touchU s.1 s.2 li)
def dropS (s : Sta) (li : Int) : Sta := (dropXs s.1 li, s.2)
def outNx (st : Int) : Int := if st = 3 then 9 else 7
def outF (s : Sta) (li : Int) : Sta × List Ms :=
  if atRest (findVal s.1 li).st = true then (setS S N s li (outNx (findVal s.1 li).st) (findVal s.1 li).l (findVal s.1 li).h, [toldM 3 (findVal s.1 li) false]) else (s, [])
def getF (s : Sta) (li st kd : Int) : Sta × List Ms :=
  if roomFree S N s.1 li = true then (setS S N s li st zl8 rfl, [ms4 kd li false false]) else outF S N s (roomVic S N s.1 li)
def loadF (s : Sta) (li k : Int) : Sta × (Int × Bool × List Ms) :=
  if (isLn li && isWd k) = true then
    (if mayR (findVal s.1 li).st = true then (touchS s li, ((findVal s.1 li).l.getD k.toNat 0, true, []))
     else if idleB s.1 = true then ((getF S N s li 4 1).1, (0, false, (getF S N s li 4 1).2)) else (s, (0, false, [])))
  else (s, (0, false, []))
def reachF (s : Sta) (li : Int) : Sta × List Ms :=
  if (isLn li && !ownsB s.1 li && idleB s.1) = true then
    (if dropVal s.1 li = true then (setS S N s li 6 (findVal s.1 li).l (findVal s.1 li).h, [ms4 2 li false false]) else getF S N s li 5 2)
  else (s, [])
def storeF (s : Sta) (li k v : Int) : Sta × (Bool × List Ms) :=
  if (isLn li && isWd k) = true then
    (if ownsB s.1 li = true then (setS S N s li 3 ((findVal s.1 li).l.set k.toNat v) (by rw [List.length_set]; exact (findVal s.1 li).h), (true, []))
     else ((reachF S N s li).1, (false, (reachF S N s li).2)))
  else (s, (false, []))
def evictF (s : Sta) (li : Int) : Sta × (List Ms × Int) :=
  if idleB s.1 = true then ((outF S N s li).1, ((outF S N s li).2, if (outF S N s li).2 = [] then 14 else 0)) else (s, ([], 15))
def hearX (s : Sta) (m : Ms) (nx : Int) : Sta := if nx = 10 then dropS s m.li else if nx = 11 then s else setS S N s m.li nx (wordsL m (findVal s.1 m.li) nx) (wordsL_len _ _ _)
def hearF (s : Sta) (m : Ms) : Sta × (List Ms × Int) :=
  if (mg m && tellsB m.kd) = true then
    (if tb m.kd (findVal s.1 m.li).st = 0 then (s, ([], 16))
     else (hearX S N s m (tb m.kd (findVal s.1 m.li).st), (answersL m.kd (findVal s.1 m.li) (tb m.kd (findVal s.1 m.li).st), 0)))
  else (s, ([], 1))
end

/-! ### Parts of a message, and of a slot, that are written -/
def Ms.putDi (m : Ms) (b : Bool) : Ms := ⟨m.kd, m.li, b, m.ke, m.l, m.h⟩
def Ms.putKe (m : Ms) (b : Bool) : Ms := ⟨m.kd, m.li, m.di, b, m.l, m.h⟩
def Ms.putL (m : Ms) (l : List Int) (h : l.length = 8) : Ms := ⟨m.kd, m.li, m.di, m.ke, l, h⟩
def Slt.putL (x : Slt) (l : List Int) (h : l.length = 8) : Slt := ⟨x.st, x.li, l, x.us, h⟩
theorem ms4_k (a b : Int) (d e : Bool) (k : Int) : (msc (ms4 a b d e)).setIfInBounds 0 (.int .i64 k) = msc (ms4 k b d e) := by simp [msc, Ms.enc, ms4]
theorem ms4_l (a b : Int) (d e : Bool) (k : Int) : (msc (ms4 a b d e)).setIfInBounds 1 (.int .i64 k) = msc (ms4 a k d e) := by simp [msc, Ms.enc, ms4]
theorem ms4_e (a b : Int) (d e : Bool) (k : Bool) : (msc (ms4 a b d e)).setIfInBounds 3 (.bool k) = msc (ms4 a b d k) := by simp [msc, Ms.enc, ms4]
theorem msc_putDi (m : Ms) (b : Bool) : (msc m).setIfInBounds 2 (.bool b) = msc (m.putDi b) := by simp [msc, Ms.enc, Ms.putDi]
theorem msc_putKe (m : Ms) (b : Bool) : (msc m).setIfInBounds 3 (.bool b) = msc (m.putKe b) := by simp [msc, Ms.enc, Ms.putKe]
theorem msc_put (m : Ms) (l : List Int) (h : l.length = 8) (t : TypeId) (f : Nat × Nat) : rowPut (some (.cells (msc m) t f)) 4 (vs l) = some (.cells (msc (m.putL l h)) t f) := by
  rw [rowPut_some]
  have hm := m.h
  simp [msc, Ms.enc, Ms.putL, vs, splice, h, hm]
theorem msc_putX (m : Ms) (x : Slt) (t : TypeId) (f : Nat × Nat) : rowPut (some (.cells (msc m) t f)) 4 (vs x.l) = some (.cells (msc (m.putL x.l x.h)) t f) := msc_put m x.l x.h t f
theorem msc_has (m : Ms) (t : TypeId) : rowHas (some (.cells (msc m) t (0, 0))) 4 8 = true := by
  rw [rowHas_some, msc_size]; exact decide_eq_true (show 4 + 8 ≤ 12 by omega)
theorem slc_word (x : Slt) (k : Nat) (h : k < 8) : (slc x)[2 + k]? = some (.int .u64 (x.l.getD k 0)) := by
  have h8 : x.l.length = 8 := x.h
  unfold slc Slt.enc
  rw [List.getElem?_toArray, show 2 + k = k + 1 + 1 by omega, List.getElem?_cons_succ, List.getElem?_cons_succ, List.getElem?_append_left (by simp [h8, h]), List.getElem?_map, List.getD_eq_getElem?_getD, List.getElem?_eq_getElem (by omega)]
  rfl
theorem slc_setWord (x : Slt) (k : Nat) (v : Int) (h : k < 8) : (slc x).setIfInBounds (2 + k) (.int .u64 v) = slc (x.putL (x.l.set k v) (by rw [List.length_set]; exact x.h)) := by
  have h8 : x.l.length = 8 := x.h
  unfold slc Slt.enc Slt.putL
  rw [List.setIfInBounds_toArray, show 2 + k = k + 1 + 1 by omega, List.set_cons_succ, List.set_cons_succ, List.set_append_left _ _ (by simp [h8, h]), List.map_set]

/-! ### What is so of all slots -/
/-- Each state is one that there is. -/
def Sane (xs : List Slt) : Prop := ∀ x ∈ xs, 0 ≤ x.st ∧ x.st ≤ 9
theorem Sane.put {xs : List Slt} (h : Sane xs) (k : Nat) (y : Slt) (hy : 0 ≤ y.st ∧ y.st ≤ 9) : Sane (xs.set k y) := by
  intro x hx
  rcases List.mem_or_eq_of_mem_set hx with h1 | rfl
  · exact h x h1
  · exact hy
theorem Sane.set {S N : Nat} {s : Sta} (h : Sane s.1) (li st : Int) (l : List Int) (hl : l.length = 8) : Sane (setS S N s li st l hl).1 := by
  show Sane (setXs S N s.1 s.2 li st l hl)
  unfold setXs
  split
  · exact h
  · rename_i hb
    exact h.put _ _ (by unfold badSet at hb; show 0 ≤ st ∧ st ≤ 9; omega)
theorem Sane.touch {s : Sta} (h : Sane s.1) (li : Int) : Sane (touchS s li).1 := by
  show Sane (touchXs s.1 s.2 li)
  unfold touchXs
  split
  · rename_i x hx
    exact h.put _ _ (h x (List.mem_of_getElem? hx))
  · exact h
theorem Sane.drop {s : Sta} (h : Sane s.1) (li : Int) : Sane (dropS s li).1 := h.put _ _ (by decide)
theorem Sane.new (n : Nat) : Sane (List.replicate n sltZ) := by
  intro x hx
  rw [List.eq_of_mem_replicate hx]
  decide
/-- What is found is one of them, or none. -/
theorem find_mem (xs : List Slt) (li : Int) : (findVal xs li ∈ xs ∧ pLine li (findVal xs li) = true ∧ dropVal xs li = true) ∨ (findVal xs li = sltZ ∧ dropVal xs li = false ∧ ∀ x ∈ xs, pLine li x = false) := by
  unfold findVal dropVal
  by_cases h : xs.findIdx (pLine li) < xs.length
  · rw [List.getElem?_eq_getElem h]
    exact .inl ⟨List.getElem_mem h, List.findIdx_getElem, by simpa using h⟩
  · rw [List.getElem?_eq_none (by omega)]
    refine .inr ⟨rfl, by simpa using h, fun x hx => ?_⟩
    have e : xs.findIdx (pLine li) = xs.length := Nat.le_antisymm List.findIdx_le_length (by omega)
    simpa using List.findIdx_eq_length.1 e x hx
theorem find_sane {xs : List Slt} (h : Sane xs) (li : Int) : 0 ≤ (findVal xs li).st ∧ (findVal xs li).st ≤ 9 := by
  rcases find_mem xs li with ⟨h1, _⟩ | ⟨h1, _⟩
  · exact h _ h1
  · rw [h1]; decide
theorem find_line {xs : List Slt} {li : Int} (h : (findVal xs li).st ≠ 0) : (findVal xs li).li = li ∧ dropVal xs li = true := by
  rcases find_mem xs li with ⟨_, h1, h2⟩ | ⟨h1, _⟩
  · exact ⟨(pLine_yes h1).2, h2⟩
  · rw [h1] at h; exact absurd rfl h
theorem find_drop {xs : List Slt} {li : Int} : dropVal xs li = ((findVal xs li).st != 0) := by
  rcases find_mem xs li with ⟨_, h1, h2⟩ | ⟨h1, h2, _⟩
  · rw [h2]; have := (pLine_yes h1).1; simp [this]
  · rw [h1, h2]; rfl
theorem idle_find {xs : List Slt} (h : idleB xs = true) (li : Int) : (findVal xs li).st = 0 ∨ atRest (findVal xs li).st = true := by
  rcases find_mem xs li with ⟨h1, _⟩ | ⟨h1, _⟩
  · have := List.all_eq_true.1 h _ h1
    unfold restB at this
    rw [Bool.or_eq_true] at this
    simpa using this
  · left; rw [h1]; rfl
theorem rest_iff (st : Int) : atRest st = true ↔ 1 ≤ st ∧ st ≤ 3 := by unfold atRest; simp
/-- The table's bounds. -/
theorem tb_le (kd st : Int) : 0 ≤ tb kd st ∧ tb kd st ≤ 11 := by
  unfold tb
  repeat' split
  all_goals omega
theorem tb_line {kd st : Int} (h : tb kd st ≠ 0) (h14 : kd ≠ 14) : st ≠ 0 := by
  rintro rfl
  apply h
  unfold tb
  simp [h14]
/-! ### How often they were used -/
theorem setS_u {S N : Nat} {s : Sta} {li st : Int} {l : List Int} {h : l.length = 8} : s.2 ≤ (setS S N s li st l h).2 ∧ (setS S N s li st l h).2 ≤ s.2 + 1 := setU_le
theorem touchS_u {s : Sta} {li : Int} : s.2 ≤ (touchS s li).2 ∧ (touchS s li).2 ≤ s.2 + 1 := touchU_le
theorem dropS_u {s : Sta} {li : Int} : s.2 ≤ (dropS s li).2 ∧ (dropS s li).2 ≤ s.2 + 1 := by unfold dropS; show s.2 ≤ s.2 ∧ _; omega
theorem outF_u {S N : Nat} {s : Sta} {li : Int} : s.2 ≤ (outF S N s li).1.2 ∧ (outF S N s li).1.2 ≤ s.2 + 1 := by
  unfold outF; split
  · exact setS_u
  · show s.2 ≤ s.2 ∧ s.2 ≤ s.2 + 1; omega
theorem getF_u {S N : Nat} {s : Sta} {li st kd : Int} : s.2 ≤ (getF S N s li st kd).1.2 ∧ (getF S N s li st kd).1.2 ≤ s.2 + 1 := by
  unfold getF; split
  · exact setS_u
  · exact outF_u
theorem same_u {s : Sta} : s.2 ≤ s.2 ∧ s.2 ≤ s.2 + 1 := by omega
theorem loadF_u {S N : Nat} {s : Sta} {li k : Int} : s.2 ≤ (loadF S N s li k).1.2 ∧ (loadF S N s li k).1.2 ≤ s.2 + 1 := by
  unfold loadF; split
  · split
    · exact touchS_u
    · split
      · exact getF_u
      · exact same_u
  · exact same_u
theorem reachF_u {S N : Nat} {s : Sta} {li : Int} : s.2 ≤ (reachF S N s li).1.2 ∧ (reachF S N s li).1.2 ≤ s.2 + 1 := by
  unfold reachF; split
  · split
    · exact setS_u
    · exact getF_u
  · exact same_u
theorem storeF_u {S N : Nat} {s : Sta} {li k v : Int} : s.2 ≤ (storeF S N s li k v).1.2 ∧ (storeF S N s li k v).1.2 ≤ s.2 + 1 := by
  unfold storeF; split
  · split
    · exact setS_u
    · exact reachF_u
  · exact same_u
theorem evictF_u {S N : Nat} {s : Sta} {li : Int} : s.2 ≤ (evictF S N s li).1.2 ∧ (evictF S N s li).1.2 ≤ s.2 + 1 := by
  unfold evictF; split
  · exact outF_u
  · exact same_u
theorem hearF_u {S N : Nat} {s : Sta} {m : Ms} : s.2 ≤ (hearF S N s m).1.2 ∧ (hearF S N s m).1.2 ≤ s.2 + 1 := by
  unfold hearF; split
  · split
    · exact same_u
    · show s.2 ≤ (hearX S N s m _).2 ∧ (hearX S N s m _).2 ≤ s.2 + 1
      unfold hearX
      split
      · exact dropS_u
      · split
        · exact same_u
        · exact setS_u
  · exact same_u
end Go.Proofs.YtcjoinhngdfdmaaGreatDoor
end
