/- Slices of elements of any kind by whole blocks: read, appended to, copied, cleared. No condition. -/
import Derived.Test.YtnocekhgabgffaaMem
namespace Go.Proofs.Ytnocekhgabgffaa
open Go.RowKit
set_option linter.unusedVariables false

/-! ### Elements one behind the other -/
section
variable {α : Type} {enc : α → List Value} {k : Nat}
/-- The cells of elements. -/
def cat (enc : α → List Value) (xs : List α) : List Value := (xs.map enc).flatten
theorem cat_nil : cat enc [] = [] := rfl
theorem cat_cons (x : α) (xs : List α) : cat enc (x :: xs) = enc x ++ cat enc xs := by simp [cat]
theorem cat_append (xs ys : List α) : cat enc (xs ++ ys) = cat enc xs ++ cat enc ys := by simp [cat]
theorem cat_one (x : α) : cat enc [x] = enc x := by simp [cat]
theorem cat_length (hk : ∀ a, (enc a).length = k) : ∀ xs : List α, (cat enc xs).length = xs.length * k
  | [] => by simp [cat]
  | x :: xs => by rw [cat_cons, List.length_append, cat_length hk xs, hk, List.length_cons, Nat.add_mul]; omega
theorem cat_take (hk : ∀ a, (enc a).length = k) : ∀ (xs : List α) (i : Nat), (cat enc xs).take (i * k) = cat enc (xs.take i)
  | [], i => by simp [cat]
  | x :: xs, 0 => by simp [cat]
  | x :: xs, i + 1 => by
    rw [cat_cons, List.take_succ_cons, cat_cons, ← cat_take hk xs i, List.take_append, List.take_of_length_le (by rw [hk, Nat.add_mul]; omega), hk]
    congr 2
    rw [Nat.add_mul]; omega
theorem cat_drop (hk : ∀ a, (enc a).length = k) : ∀ (xs : List α) (i : Nat), (cat enc xs).drop (i * k) = cat enc (xs.drop i)
  | [], i => by simp [cat]
  | x :: xs, 0 => by simp [cat]
  | x :: xs, i + 1 => by
    rw [cat_cons, List.drop_succ_cons, ← cat_drop hk xs i, List.drop_append, List.drop_eq_nil_of_le (by rw [hk, Nat.add_mul]; omega), hk, List.nil_append]
    congr 1
    rw [Nat.add_mul]; omega
theorem cat_part (hk : ∀ a, (enc a).length = k) {xs : List α} {i : Nat} {a : α} (h : xs[i]? = some a) : ((cat enc xs).drop (i * k)).take k = enc a := by
  obtain ⟨hi, rfl⟩ := List.getElem?_eq_some_iff.1 h
  rw [cat_drop hk, List.drop_eq_getElem_cons hi, cat_cons, List.take_append_of_le_length (by rw [hk]; omega), List.take_of_length_le (by rw [hk]; omega)]
theorem cat_splice (hk : ∀ a, (enc a).length = k) (xs ys : List α) (i : Nat) : splice (cat enc xs) (i * k) (cat enc ys) = cat enc (splice xs i ys) := by
  unfold splice
  rw [cat_take hk, cat_length hk, ← Nat.add_mul, cat_drop hk, cat_append, cat_append]
theorem cat_one_cell (h1 : ∀ a, ∀ v ∈ enc a, v.oneCell' = true) (xs : List α) : ∀ v ∈ cat enc xs, v.oneCell' = true := by
  intro v hv
  simp only [cat, List.mem_flatten, List.mem_map] at hv
  obtain ⟨l, ⟨a, _, rfl⟩, hv⟩ := hv
  exact h1 a v hv
/-- A block's cells: elements, then others. -/
def sq (enc : α → List Value) (xs : List α) (r : List Value) : Array Value := (cat enc xs ++ r).toArray
theorem sq_size (hk : ∀ a, (enc a).length = k) (xs : List α) (r : List Value) : (sq enc xs r).size = xs.length * k + r.length := by simp [sq, cat_length hk]
theorem sq_toList (xs : List α) (r : List Value) : (sq enc xs r).toList = cat enc xs ++ r := by simp [sq]
theorem mul_lt_of {i n k : Nat} (h : i < n) : i * k + k ≤ n * k := by rw [← Nat.succ_mul]; exact Nat.mul_le_mul_right _ h
/-- Some cells of element i. -/
theorem rowPart_sq (hk : ∀ a, (enc a).length = k) {xs : List α} {i : Nat} {a : α} (h : xs[i]? = some a) (r : List Value) (t : TypeId) (f : Nat × Nat) (o n : Nat) (hn : o + n ≤ k) :
    rowPart (some (.cells (sq enc xs r) t f)) (i * k + o) n = ((enc a).drop o |>.take n).toArray := by
  have hi := (List.getElem?_eq_some_iff.1 h).1
  have hl := cat_length hk xs
  have hm := mul_lt_of (k := k) hi
  rw [rowPart_some, sq_toList, ← List.drop_drop, List.drop_append_of_le_length (by rw [hl]; omega), List.drop_append_of_le_length (by rw [List.length_drop, hl]; omega), List.take_append_of_le_length (by rw [List.length_drop, List.length_drop, hl]; omega)]
  rw [← cat_part hk h, List.drop_take, List.take_take, Nat.min_eq_left (by omega)]
theorem rowIn_sq (hk : ∀ a, (enc a).length = k) {xs : List α} {i : Nat} (hi : i < xs.length) (r : List Value) (t : TypeId) (f : Nat × Nat) (o n : Nat) (hn : o + n ≤ k) :
    rowIn (some (.cells (sq enc xs r) t f)) (i * k + o) n = true := by
  have hm := mul_lt_of (k := k) hi
  rw [rowIn_some, sq_size hk]
  exact decide_eq_true (show _ ≤ _ by omega)
theorem sq_cell (hk : ∀ a, (enc a).length = k) {xs : List α} {i : Nat} {a : α} (h : xs[i]? = some a) (r : List Value) (o : Nat) (ho : o < k) : (sq enc xs r)[i * k + o]? = (enc a)[o]? := by
  have hi := (List.getElem?_eq_some_iff.1 h).1
  have hl := cat_length hk xs
  have hm := mul_lt_of (k := k) hi
  rw [← cat_part hk h]
  unfold sq
  rw [List.getElem?_toArray, List.getElem?_append_left (by rw [hl]; omega), List.getElem?_take_of_lt ho, List.getElem?_drop]
end

/-- A kind of elements, as the program has it. -/
structure Elt {α : Type} (P : Program) (t e : TypeId) (k bytes : Nat) (z : Value) (enc : α → List Value) : Prop where
  slice : P.underlying t = some (.slice e)
  info : (P.info? e).map (fun i => (i.zero, i.size, i.bytes)) = some (some z, k, bytes)
  zero : z.cells.size = k
  zone : ∀ v ∈ z.cells, v.oneCell' = true
  pos : 0 < k
  len : ∀ a, (enc a).length = k
  one : ∀ a, ∀ v ∈ enc a, v.oneCell' = true

/-! ### A variable that is a slice of its own block be, at its head (be is q where there is none yet) -/
section
variable {α : Type} {enc : α → List Value} {k bytes : Nat} {P : Program} {t ty e : TypeId} {z : Value}
def Vec (k : Nat) (e : TypeId) (enc : α → List Value) (w : World) (q be : Nat) (A : Option Addr) (cap : Nat) (xs : List α) : Prop :=
  (be = q ∧ A = none ∧ cap = 0 ∧ xs = []) ∨ (be ≠ q ∧ A = some ⟨be, 0, none⟩ ∧ xs.length ≤ cap ∧ ∃ r : List Value, w.heap[be]? = some (.cells (sq enc xs r) e (0, 0)) ∧ xs.length * k + r.length = cap * k)
theorem Vec.nil (k : Nat) (e : TypeId) (enc : α → List Value) (w : World) (q : Nat) : Vec k e enc w q q none 0 ([] : List α) := .inl ⟨rfl, rfl, rfl, rfl⟩
theorem Vec.le {w : World} {q be : Nat} {A : Option Addr} {cap : Nat} {xs : List α} (h : Vec k e enc w q be A cap xs) : xs.length ≤ cap := by
  rcases h with ⟨_, _, rfl, rfl⟩ | ⟨_, _, h, _⟩
  · simp
  · exact h
theorem Vec.keep {w w' : World} {q be : Nat} {A : Option Addr} {cap : Nat} {xs : List α} {l : List Nat} (h : Vec k e enc w q be A cap xs) (hc : Chg l w w') (hb : be ∉ l) : Vec k e enc w' q be A cap xs :=
  h.imp id fun ⟨h1, h2, h3, r, h4, h5⟩ => ⟨h1, h2, h3, r, hc.keep h4 hb, h5⟩
theorem Vec.old {w : World} {q be : Nat} {A : Option Addr} {cap : Nat} {xs : List α} (h : Vec k e enc w q be A cap xs) (hq : Old w q) : Old w be := by
  rcases h with ⟨rfl, _⟩ | ⟨_, _, _, r, h4, _⟩
  · exact hq
  · exact Go.Proofs.Ytnocekhgabgffaa.old h4
theorem Vec.there {w : World} {q be : Nat} {A : Option Addr} {cap : Nat} {xs : List α} (h : Vec k e enc w q be A cap xs) (h0 : 0 < xs.length) : be ≠ q ∧ A = some ⟨be, 0, none⟩ ∧ ∃ r : List Value, w.heap[be]? = some (.cells (sq enc xs r) e (0, 0)) ∧ xs.length * k + r.length = cap * k := by
  rcases h with ⟨_, _, _, rfl⟩ | ⟨h1, h2, _, h3⟩
  · simp at h0
  · exact ⟨h1, h2, h3⟩
theorem Vec.sl (hk : ∀ a, (enc a).length = k) {w : World} {q be : Nat} {A : Option Addr} {cap : Nat} {xs : List α} (h : Vec k e enc w q be A cap xs) : Sl w k A xs.length (cat enc xs) := by
  refine ⟨cat_length hk xs, ?_⟩
  rcases h with ⟨_, _, _, rfl⟩ | ⟨_, rfl, _, r, h4, _⟩
  · exact .inl rfl
  · exact .inr ⟨be, 0, _, e, (0, 0), rfl, h4, by rw [sq_toList, List.drop_zero, List.take_append_of_le_length (by rw [cat_length hk]; exact Nat.le_refl _), List.take_of_length_le (by rw [cat_length hk]; exact Nat.le_refl _)]⟩
/-- Elements i on. -/
theorem Vec.slFrom (hk : ∀ a, (enc a).length = k) {w : World} {q be : Nat} {cap : Nat} {xs : List α} (h : Vec k e enc w q be (some ⟨be, 0, none⟩) cap xs) {i : Nat} (hi : i ≤ xs.length) : Sl w k (some ⟨be, i * k, none⟩) (xs.length - i) (cat enc (xs.drop i)) := by
  refine ⟨by rw [cat_length hk, List.length_drop], ?_⟩
  rcases h with ⟨_, h, _⟩ | ⟨_, _, _, r, h4, _⟩
  · cases h
  · have hm : i * k ≤ xs.length * k := Nat.mul_le_mul_right _ hi
    refine .inr ⟨be, i * k, _, e, (0, 0), rfl, h4, ?_⟩
    rw [sq_toList, List.drop_append_of_le_length (by rw [cat_length hk]; exact hm), cat_drop hk, List.take_append_of_le_length (by rw [cat_length hk, List.length_drop]; exact Nat.le_refl _), List.take_of_length_le (by rw [cat_length hk, List.length_drop]; exact Nat.le_refl _)]
theorem Vec.slTo (hk : ∀ a, (enc a).length = k) {w : World} {q be : Nat} {A : Option Addr} {cap : Nat} {xs : List α} (h : Vec k e enc w q be A cap xs) {i : Nat} (hi : i ≤ xs.length) : Sl w k A i (cat enc (xs.take i)) := by
  refine ⟨by rw [cat_length hk, List.length_take, Nat.min_eq_left hi], ?_⟩
  rcases h with ⟨_, _, _, rfl⟩ | ⟨_, rfl, _, r, h4, _⟩
  · exact .inl (by simpa using hi)
  · have hm : i * k ≤ xs.length * k := Nat.mul_le_mul_right _ hi
    exact .inr ⟨be, 0, _, e, (0, 0), rfl, h4, by rw [sq_toList, List.drop_zero, List.take_append_of_le_length (by rw [cat_length hk]; exact hm), cat_take hk]⟩

theorem setCells_nil (b o : Nat) (w : World) : w.setCells b o [] = w := rfl
/-- Elements appended: none, into the room that there is, into a new block. -/
theorem Vec.app (E : Elt P t e k bytes z enc) {w : World} {q be : Nat} {A : Option Addr} {cap : Nat} {xs : List α} (hv : Vec k e enc w q be A cap xs) (hq : Old w q)
    {B : Option Addr} {m c : Nat} {ys : List α} (hs : Sl w k B m (cat enc ys)) (hm : ys.length = m) (hB : (xs.length + m) * bytes ≤ 140737488355328) (h63 : xs.length + m ≤ maxLen) :
    ∃ (be' cap' : Nat) (A' : Option Addr) (w' : World), appR P t ty #[.slice A xs.length cap, .slice B m c] w = .ok (.slice A' (xs.length + m) cap') w' ∧ Vec k e enc w' q be' A' cap' (xs ++ ys) ∧ (be' = be ∨ w.heap.size ≤ be') ∧ Chg [be] w w' ∧ w'.heap[q]? = w.heap[q]? := by
  obtain ⟨i0, hi0, hz0, hz1, hz2⟩ := info_parts E.info
  subst hz1
  subst hz2
  have h63' : xs.length + m ≤ 9223372036854775807 := by simp only [maxLen] at h63; omega
  rcases Nat.eq_zero_or_pos m with h0 | h0
  · subst h0
    obtain rfl : ys = [] := List.eq_nil_of_length_eq_zero hm
    have hfc := run_firstCells_sl (P := P) w i0.size 0 B 0 c [] ⟨by simp, .inl rfl⟩
    refine ⟨be, cap, A, w, ?_, by simpa using hv, .inl rfl, Chg.refl _ _, rfl⟩
    have hle := hv.le
    unfold appR
    cases A with
    | none => simp [Builtin.append_, run_underlying E.slice, sizeOf, typeInfo, hi0, Builtin.lenOf, hfc, hle]
    | some a => simp [Builtin.append_, run_underlying E.slice, sizeOf, typeInfo, hi0, Builtin.lenOf, hfc, hle, storeCells]
  · obtain ⟨b, o, rfl⟩ := hs.addr h0
    have hcells : ∀ j v, (cat enc ys)[j]? = some v → w.cell? ((⟨b, o, none⟩ : Addr).add j) = some v := hs.cells
    have hlen : (cat enc ys).length = m * i0.size := hs.1
    rcases hv with ⟨rfl, rfl, rfl, rfl⟩ | ⟨hne, rfl, hle, r, hb, hr⟩
    · have := run_append_nil (P := P) w t ty e i0 z E.slice hi0 hz0 ⟨b, o, none⟩ m c (cat enc ys) hlen hcells h0 (by rw [List.length_nil, Nat.zero_add] at h63'; omega) (by rw [List.length_nil, Nat.zero_add] at hB; omega)
      have hge := grownCap_ge w m 0 e
      refine ⟨w.heap.size, grownCap w m 0 e, some ⟨w.heap.size, 0, none⟩, _, by simpa [appR] using this, ?_, .inr (Nat.le_refl _), (Chg.refl _ _).drew.alloc _, ?_⟩
      · refine .inr ⟨by have := hq.lt; omega, rfl, by simp [hm]; exact hge, (Builtin.zeroCells z.cells (grownCap w m 0 e - m)).toList, ?_, ?_⟩
        · rw [heap_alloc]
          have h2 : w.drew.heap[w.heap.size]? = none := Array.getElem?_eq_none (Nat.le_refl _)
          have h3 : w.heap.size = w.drew.heap.size := rfl
          rw [h2, if_pos h3]
          simp [sq]
        · simp only [List.nil_append, hm, Array.length_toList, size_zeroCells, E.zero]
          rw [← Nat.add_mul]; congr 1; omega
      · rw [heap_alloc, heap_drew, if_neg (by have h1 := hq.lt; have h2 : w.drew.heap.size = w.heap.size := rfl; omega), Option.or_none]
    · by_cases hroom : xs.length + m ≤ cap
      · have hmul : (xs.length + m) * i0.size ≤ cap * i0.size := Nat.mul_le_mul_right _ hroom
        rw [Nat.add_mul] at hmul
        have hsz : (sq enc xs r).size = xs.length * i0.size + r.length := sq_size E.len xs r
        have hrow : rowHas (w.heap[be]?) (xs.length * i0.size) (cat enc ys).length = true := by
          rw [hb, rowHas_some, hsz, hlen]
          exact decide_eq_true (show _ ≤ _ by omega)
        have hr2 := run_append_room_cells (P := P) w t ty e i0 E.slice hi0 be 0 xs.length cap ⟨b, o, none⟩ m c (cat enc ys) hlen hcells (cat_one_cell E.one ys) hroom
          (by intro j hj; rw [Nat.zero_add, cell_row, hb, rowCell_some]; simp; rw [hsz]; omega)
          (by intro j hj; rw [Nat.zero_add, frozen_row, hb, rowFrozen_some])
        rw [Nat.zero_add] at hr2
        refine ⟨be, cap, _, _, hr2, .inr ⟨hne, rfl, by simp [hm, hroom], r.drop (m * i0.size), ?_, ?_⟩, .inl rfl, Chg.setCells be (.inl (by simp)) _ _ _ (Chg.refl _ _), ?_⟩
        · rw [heap_setCells _ _ _ _ _ hrow, if_pos rfl, hb, rowPut_some, sq_toList]
          congr 2
          unfold sq splice
          rw [List.toList_toArray, List.take_append_of_le_length (by rw [cat_length E.len]; exact Nat.le_refl _), List.take_of_length_le (by rw [cat_length E.len]; exact Nat.le_refl _), cat_append, hlen, List.drop_append, cat_length E.len, List.drop_eq_nil_of_le (by rw [cat_length E.len]; omega), List.nil_append]
          congr 3
          omega
        · simp only [List.length_append, hm, List.length_drop]
          rw [Nat.add_mul]; omega
        · rw [heap_setCells _ _ _ _ _ hrow, if_neg (Ne.symm hne)]
      · have holds : ∀ j v, (cat enc xs)[j]? = some v → w.cell? ((⟨be, 0, none⟩ : Addr).add j) = some v := by
          intro j v hv
          have hj := (List.getElem?_eq_some_iff.1 hv).1
          rw [Addr.add_mid, cell_row, hb, rowCell_some]
          unfold sq
          rw [List.getElem?_toArray, Nat.zero_add, List.getElem?_append_left hj]
          exact hv
        have hgr := run_append_grow (P := P) w t ty e i0 z E.slice hi0 hz0 ⟨be, 0, none⟩ xs.length cap (cat enc xs) (cat_length E.len xs) holds ⟨b, o, none⟩ m c (cat enc ys) hlen hcells (by omega) (by omega) (growslice_fits (by omega) hB)
        have hge := grownCap_ge w (xs.length + m) cap e
        refine ⟨w.heap.size, grownCap w (xs.length + m) cap e, _, _, hgr, ?_, .inr (Nat.le_refl _), (Chg.refl _ _).drew.alloc _, ?_⟩
        · refine .inr ⟨by have := hq.lt; omega, rfl, by simp [hm]; exact hge, (Builtin.zeroCells z.cells (grownCap w (xs.length + m) cap e - (xs.length + m))).toList, ?_, ?_⟩
          · rw [heap_alloc]
            have h2 : w.drew.heap[w.heap.size]? = none := Array.getElem?_eq_none (Nat.le_refl _)
            have h3 : w.heap.size = w.drew.heap.size := rfl
            rw [h2, if_pos h3]
            simp [sq, cat_append]
          · simp only [List.length_append, hm, Array.length_toList, size_zeroCells, E.zero]
            rw [← Nat.add_mul]; congr 1; omega
        · rw [heap_alloc, heap_drew, if_neg (by have h1 := hq.lt; have h2 : w.drew.heap.size = w.heap.size := rfl; omega), Option.or_none]

theorem Chg.less {q : Nat} {w w' : World} (h : Chg [q] w w') (hq : w'.heap[q]? = w.heap[q]?) : Chg [] w w' :=
  ⟨h.os, h.tape, h.output, h.size, fun j hj _ => by
    by_cases e : j = q
    · rw [e, hq]
    · exact h.block j hj (by simpa using e)⟩
/-- The same for a slice that grows while nothing that was there at first is changed. -/
theorem Vec.acc (E : Elt P t e k bytes z enc) {w0 w : World} {q be : Nat} {A : Option Addr} {cap : Nat} {xs : List α} (hc : Chg [] w0 w) (hv : Vec k e enc w q be A cap xs) (hbe : be = q ∨ w0.heap.size ≤ be) (hq : Old w0 q)
    {B : Option Addr} {m c : Nat} {ys : List α} (hs : Sl w k B m (cat enc ys)) (hm : ys.length = m) (hB : (xs.length + m) * bytes ≤ 140737488355328) (h63 : xs.length + m ≤ maxLen) :
    ∃ (be' cap' : Nat) (A' : Option Addr) (w' : World), appR P t ty #[.slice A xs.length cap, .slice B m c] w = .ok (.slice A' (xs.length + m) cap') w' ∧ Vec k e enc w' q be' A' cap' (xs ++ ys) ∧ (be' = q ∨ w0.heap.size ≤ be') ∧ Chg [] w0 w' := by
  obtain ⟨be', cap', A', w', h1, h2, h3, h4, h5⟩ := hv.app (ty := ty) E (hq.chg hc) hs (c := c) hm hB h63
  have hsz := hc.size
  refine ⟨be', cap', A', w', h1, h2, ?_, ?_⟩
  · rcases h3 with rfl | h3
    · exact hbe
    · exact .inr (by omega)
  · rcases hbe with rfl | hbe
    · exact hc.trans (h4.less h5)
    · exact hc.trans' h4 (by simpa using hbe)
/-- 'copy(d, x)' where d has no fewer elements than x. -/
theorem run_copy_sl {t' : TypeId} {i : TypeInfo} (ht : P.underlying t = some (.slice e)) (hi : P.info? e = some i) (w : World) (b o : Nat) (A : Option Addr) (n c m d : Nat) (xs : List Value) (h : Sl w i.size A n xs) (hn : n ≤ m) (h1 : ∀ v ∈ xs, v.oneCell' = true) (hb : rowHas (w.heap[b]?) o xs.length = true) :
    copR P t t' ty #[.slice (some ⟨b, o, none⟩) m d, .slice A n c] w = .ok (goInt n) (putRow w b o xs.toArray) := by
  have hf := run_firstCells_sl (P := P) w i.size n A n c xs h
  have hst := run_storeCells_cells (P := P) b o xs 0 w ?_ ?_ h1
  · simp only [Nat.add_zero] at hst
    have hmin : Nat.min n m = n := Nat.min_eq_left hn
    simp [copR, Builtin.copy_, run_underlying ht, Builtin.lenOf, sizeOf, typeInfo, hi, hf, hst, putRow, hmin]
  all_goals
    intro j hj
    rw [Nat.add_zero]
    cases e : w.heap[b]? with
    | none => rw [e] at hb; cases hb
    | some x =>
      rw [e] at hb
      cases x with
      | cells c t f =>
        simp [rowHas] at hb
        obtain ⟨hb, rfl⟩ := hb
        have := hb.out
        first
          | (rw [cell_row, e, rowCell_some]; simp; omega)
          | (rw [frozen_row, e, rowFrozen_some])
      | _ => simp [rowHas] at hb
/-- 'clear(s)' of some elements, of none. -/
theorem run_clear_sl (ht : P.underlying t = some (.slice e)) (hv : ∀ w, (zeroValue e).run P w = .ok z w) (h1 : ∀ v ∈ z.cells, v.oneCell' = true) (w : World) (b o n c : Nat) (h0 : 0 < n) (hb : rowHas (w.heap[b]?) o (n * z.cells.size) = true) :
    clrR P t ty #[.slice (some ⟨b, o, none⟩) n c] w = .ok (.tuple #[]) (putRow w b o (Builtin.zeroCells z.cells n)) := by
  obtain ⟨m, rfl⟩ : ∃ m, n = m + 1 := ⟨n - 1, by omega⟩
  have hst := run_storeCells_cells (P := P) b o (Builtin.zeroCells z.cells (m + 1)).toList 0 w ?_ ?_ ?_
  · simp only [Nat.add_zero] at hst
    simp [clrR, Builtin.clear_, run_underlying ht, hv, hst, putRow]
  · intro j hj
    rw [Nat.add_zero]
    have hj' : j < (m + 1) * z.cells.size := by simpa [size_zeroCells] using hj
    cases e : w.heap[b]? with
    | none => rw [e] at hb; cases hb
    | some x =>
      rw [e] at hb
      cases x with
      | cells c t f =>
        simp [rowHas] at hb
        have := hb.1.out
        rw [cell_row, e, rowCell_some]; simp; omega
      | _ => simp [rowHas] at hb
  · intro j hj
    rw [Nat.add_zero]
    cases e : w.heap[b]? with
    | none => rw [e] at hb; cases hb
    | some x =>
      rw [e] at hb
      cases x with
      | cells c t f =>
        simp [rowHas] at hb
        obtain ⟨hb, rfl⟩ := hb
        rw [frozen_row, e, rowFrozen_some]
      | _ => simp [rowHas] at hb
  · intro v hv'
    simp only [Builtin.zeroCells, Array.toList_map, List.mem_map] at hv'
    obtain ⟨k, hk, rfl⟩ := hv'
    have hk' : k < (m + 1) * z.cells.size := by simpa using hk
    have hz0 : 0 < z.cells.size := by
      rcases Nat.eq_zero_or_pos z.cells.size with h | h
      · rw [h] at hk'; omega
      · exact h
    have hlt := Nat.mod_lt k hz0
    rw [getElem!_pos z.cells (k % z.cells.size) hlt]
    exact h1 _ (Array.getElem_mem hlt)
theorem run_clear_sl0 (ht : P.underlying t = some (.slice e)) (w : World) (A : Option Addr) (c : Nat) : clrR P t ty #[.slice A 0 c] w = .ok (.tuple #[]) w := by
  cases A <;> simp [clrR, Builtin.clear_, run_underlying ht]
end
/-! ### A value of many cells put into a row of cells, as the walk spells it -/
theorem fold_put_list {o : Nat} : ∀ (l : List Value) (C : Array Value) (j : Nat), o + j + l.length ≤ C.size → (l.zipIdx j).foldl (fun cs y => cs.setIfInBounds (o + y.snd) y.fst) C = (splice C.toList (o + j) l).toArray
  | [], C, j, _ => by simp [splice]
  | v :: l, C, j, h => by
    simp only [List.length_cons] at h
    rw [List.zipIdx_cons, List.foldl_cons, fold_put_list l _ (j + 1) (by simp; omega), Array.toList_setIfInBounds, ← Nat.add_assoc, splice_cons _ _ _ _ (by simp; omega)]
theorem fold_put (C v : Array Value) (o n : Nat) (hv : v.size = n) (h : o + n ≤ C.size) : Array.foldl (fun cs y => cs.setIfInBounds (o + y.snd) y.fst) C v.zipIdx 0 n = (splice C.toList o v.toList).toArray := by
  have e : n = v.zipIdx.size := by simp [hv]
  subst e
  rw [← Array.foldl_toList, Array.toList_zipIdx]
  have := fold_put_list (o := o) v.toList C 0 (by simpa using h)
  simpa using this
theorem fold_all (C v : Array Value) (n : Nat) (hv : v.size = n) (h : C.size = n) : Array.foldl (fun cs y => cs.setIfInBounds y.snd y.fst) C v.zipIdx 0 n = v := by
  have := fold_put C v 0 n hv (by omega)
  simp only [Nat.zero_add] at this
  rw [this, splice_all _ _ (by simp; omega), Array.toArray_toList]
theorem fold_vs (a0 a1 a2 a3 a4 a5 a6 a7 : Value) (l : List Int) (h : l.length = 8) : Array.foldl (fun cs y => cs.setIfInBounds y.snd y.fst) #[a0, a1, a2, a3, a4, a5, a6, a7] (vs l).zipIdx 0 8 = vs l :=
  fold_all _ _ _ (by rw [vs_size, h]) rfl
/-- Element i of a slice of one-cell elements. -/
theorem Sl.cell {w : World} {b o n : Nat} {xs : List Value} (h : Sl w 1 (some ⟨b, o, none⟩) n xs) {i : Nat} (hi : i < n) :
    ∃ c t f, w.heap[b]? = some (.cells c t f) ∧ c[o + i]? = xs[i]? := by
  obtain ⟨h1, h2⟩ := h
  rcases h2 with h2 | ⟨b', o', c, t, f, he, hb, hx⟩
  · omega
  · injection he with he; injection he with h3 h4; subst h3; subst h4
    refine ⟨c, t, f, hb, ?_⟩
    rw [← hx, Nat.mul_one, List.getElem?_take_of_lt hi, List.getElem?_drop, Array.getElem?_toList]
/-- Element i of a slice, cell by cell and piece by piece. -/
theorem Sl.elem {w : World} {size b o n : Nat} {xs ys : List Value} (h0 : 0 < size) (h : Sl w size (some ⟨b, o, none⟩) n xs) {i : Nat} (hi : i < n) (hy : (xs.drop (i * size)).take size = ys) :
    ∃ c t f, w.heap[b]? = some (.cells c t f) ∧ (∀ d, d < size → c[o + i * size + d]? = ys[d]?) ∧ ∀ d m, d + m ≤ size → rowIn (some (.cells c t f)) (o + i * size + d) m = true ∧ rowPart (some (.cells c t f)) (o + i * size + d) m = ((ys.drop d).take m).toArray := by
  obtain ⟨h1, h2⟩ := h
  rcases h2 with h2 | ⟨b', o', c, t, f, he, hb, hx⟩
  · omega
  · injection he with he; injection he with h3 h4; subst h3; subst h4; subst hy
    have hle : (i + 1) * size ≤ n * size := Nat.mul_le_mul_right _ (by omega)
    rw [Nat.add_mul] at hle
    have hlen := congrArg List.length hx
    simp only [List.length_take, List.length_drop, Array.length_toList] at hlen
    refine ⟨c, t, f, hb, fun d hd => ?_, fun d m hdm => ⟨?_, ?_⟩⟩
    · rw [← hx, List.getElem?_take_of_lt hd, List.getElem?_drop, List.getElem?_take_of_lt (by omega), List.getElem?_drop, Array.getElem?_toList]
      congr 1; omega
    · rw [rowIn_some]
      exact decide_eq_true (show o + i * size + d + m ≤ c.size by omega)
    · rw [rowPart_some, ← hx]
      simp only [List.drop_take, List.take_take, List.drop_drop]
      have e1 : min m (min (size - d) (n * size - i * size - d)) = m := by omega
      have e2 : min (min m (size - d)) (n * size - i * size - d) = m := by omega
      first
        | rw [e1]
        | rw [e2]
        | skip
      congr 2
      all_goals (try omega)
end Go.Proofs.Ytnocekhgabgffaa
