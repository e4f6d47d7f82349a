/- Texts of the walk, one behind the other: Seq Seo Msgm Nvm Nvmb Lines Msg Msga Msgq. No condition. -/
import Derived.Test.YtadeoflkppiflaaGreatDoorOaa
import Derived.BigQuiet
import Derived.Deep.QuietTactic
import Derived.Deep.RegionHeld3
import Derived.Deep.RegionWith
import Derived.DeepKeys
import Derived.Laws.LoneSync
import Derived.Lib.SliceRun
import Derived.Test.YtadeoflkppiflaaGreatDoorChecked
section
namespace Go.Proofs.YtadeoflkppiflaaGreatDoor
open Go.RowKit
set_option linter.unusedVariables false

/-! ### Elements one behind the other -/
section
variable {α : Type} {enc : α → List Value} {k : Nat}
/-- The cells of elements. -/
def cat (enc : α → List Value) (xs : List α) : List Value := (xs.map enc).flatten
theorem cat_cons (x : α) (xs : List α) : cat enc (x :: xs) = enc x ++ cat enc xs := by simp [cat]
theorem cat_append (xs ys : List α) : cat enc (xs ++ ys) = cat enc xs ++ cat enc ys := by simp [cat]
theorem cat_one (x : α) : cat enc [x] = enc x := by simp [cat]
theorem cat_length (hk : ∀ a, (enc a).length = k) : ∀ xs : List α, (cat enc xs).length = xs.length * k
  | [] => by simp [cat]
  | x :: xs => by rw [cat_cons, List.length_append, cat_length hk xs, hk, List.length_cons, Nat.add_mul]; omega
theorem cat_take (hk : ∀ a, (enc a).length = k) : ∀ (xs : List α) (i : Nat), (cat enc xs).take (i * k) = cat enc (xs.take i)
  | [], i => by simp [cat]
  | x :: xs, 0 => by simp [cat]
  | x :: xs, i + 1 => by
    rw [cat_cons, List.take_succ_cons, cat_cons, ← cat_take hk xs i, List.take_append, List.take_of_length_le (by rw [hk, Nat.add_mul]; omega), hk]
    congr 2
    rw [Nat.add_mul]; omega
theorem cat_drop (hk : ∀ a, (enc a).length = k) : ∀ (xs : List α) (i : Nat), (cat enc xs).drop (i * k) = cat enc (xs.drop i)
  | [], i => by simp [cat]
  | x :: xs, 0 => by simp [cat]
  | x :: xs, i + 1 => by
    rw [cat_cons, List.drop_succ_cons, ← cat_drop hk xs i, List.drop_append, List.drop_eq_nil_of_le (by rw [hk, Nat.add_mul]; omega), hk, List.nil_append]
    congr 1
    rw [Nat.add_mul]; omega
theorem cat_part (hk : ∀ a, (enc a).length = k) {xs : List α} {i : Nat} {a : α} (h : xs[i]? = some a) : ((cat enc xs).drop (i * k)).take k = enc a := by
  obtain ⟨hi, rfl⟩ := List.getElem?_eq_some_iff.1 h
  rw [cat_drop hk, List.drop_eq_getElem_cons hi, cat_cons, List.take_append_of_le_length (by rw [hk]; omega), List.take_of_length_le (by rw [hk]; omega)]
theorem cat_splice (hk : ∀ a, (enc a).length = k) (xs ys : List α) (i : Nat) : splice (cat enc xs) (i * k) (cat enc ys) = cat enc (splice xs i ys) := by
  unfold splice
  rw [cat_take hk, cat_length hk, ← Nat.add_mul, cat_drop hk, cat_append, cat_append]
theorem cat_one_cell (h1 : ∀ a, ∀ v ∈ enc a, v.oneCell' = true) (xs : List α) : ∀ v ∈ cat enc xs, v.oneCell' = true := by
  intro v hv
  simp only [cat, List.mem_flatten, List.mem_map] at hv
  obtain ⟨l, ⟨a, _, rfl⟩, hv⟩ := hv
  exact h1 a v hv
/-- A block's cells: elements, then others. -/
def sq (enc : α → List Value) (xs : List α) (r : List Value) : Array Value := (cat enc xs ++ r).toArray
theorem sq_size (hk : ∀ a, (enc a).length = k) (xs : List α) (r : List Value) : (sq enc xs r).size = xs.length * k + r.length := by simp [sq, cat_length hk]
theorem sq_toList (xs : List α) (r : List Value) : (sq enc xs r).toList = cat enc xs ++ r := by simp [sq]
theorem mul_lt_of {i n k : Nat} (h : i < n) : i * k + k ≤ n * k := by rw [← Nat.succ_mul]; exact Nat.mul_le_mul_right _ h
/-- Some cells of element i. -/
theorem rowPart_sq (hk : ∀ a, (enc a).length = k) {xs : List α} {i : Nat} {a : α} (h : xs[i]? = some a) (r : List Value) (t : TypeId) (f : Nat × Nat) (o n : Nat) (hn : o + n ≤ k) :
    rowPart (some (.cells (sq enc xs r) t f)) (i * k + o) n = ((enc a).drop o |>.take n).toArray := by
  have hi := (List.getElem?_eq_some_iff.1 h).1
  have hl := cat_length hk xs
  have hm := mul_lt_of (k := k) hi
  rw [rowPart_some, sq_toList, ← List.drop_drop, List.drop_append_of_le_length (by rw [hl]; omega), List.drop_append_of_le_length (by rw [List.length_drop, hl]; omega), List.take_append_of_le_length (by rw [List.length_drop, List.length_drop, hl]; omega)]
  rw [← cat_part hk h, List.drop_take, List.take_take, Nat.min_eq_left (by omega)]
theorem rowIn_sq (hk : ∀ a, (enc a).length = k) {xs : List α} {i : Nat} (hi : i < xs.length) (r : List Value) (t : TypeId) (f : Nat × Nat) (o n : Nat) (hn : o + n ≤ k) :
    rowIn (some (.cells (sq enc xs r) t f)) (i * k + o) n = true := by
  have hm := mul_lt_of (k := k) hi
  rw [rowIn_some, sq_size hk]
  exact decide_eq_true (show _ ≤ _ by omega)
theorem sq_cell (hk : ∀ a, (enc a).length = k) {xs : List α} {i : Nat} {a : α} (h : xs[i]? = some a) (r : List Value) (o : Nat) (ho : o < k) : (sq enc xs r)[i * k + o]? = (enc a)[o]? := by
  have hi := (List.getElem?_eq_some_iff.1 h).1
  have hl := cat_length hk xs
  have hm := mul_lt_of (k := k) hi
  rw [← cat_part hk h]
  unfold sq
  rw [List.getElem?_toArray, List.getElem?_append_left (by rw [hl]; omega), List.getElem?_take_of_lt ho, List.getElem?_drop]
end

/-- A kind of elements, as the program has it. -/
structure Elt {α : Type} (P : Program) (t e : TypeId) (k bytes : Nat) (z : Value) (enc : α → List Value) : Prop where
  slice : P.underlying t = some (.slice e)
  info : (P.info? e).map (fun i => (i.zero, i.size, i.bytes)) = some (some z, k, bytes)
  zero : z.cells.size = k
  zone : ∀ v ∈ z.cells, v.oneCell' = true
  pos : 0 < k
  len : ∀ a, (enc a).length = k
  one : ∀ a, ∀ v ∈ enc a, v.oneCell' = true

/-! ### A variable that is a slice of its own block be, at its head (be is q where there is none yet) -/
section
variable {α : Type} {enc : α → List Value} {k bytes : Nat} {P : Program} {t ty e : TypeId} {z : Value}
def Vec (k : Nat) (e : TypeId) (enc : α → List Value) (w : World) (q be : Nat) (A : Option Addr) (cap : Nat) (xs : List α) : Prop :=
  (be = q ∧ A = none ∧ cap = 0 ∧ xs = []) ∨ (be ≠ q ∧ A = some ⟨be, 0, none⟩ ∧ xs.length ≤ cap ∧ ∃ r : List Value, w.heap[be]? = some (.cells (sq enc xs r) e (0, 0)) ∧ xs.length * k + r.length = cap * k)
theorem Vec.nil (k : Nat) (e : TypeId) (enc : α → List Value) (w : World) (q : Nat) : Vec k e enc w q q none 0 ([] : List α) := .inl ⟨rfl, rfl, rfl, rfl⟩
theorem Vec.le {w : World} {q be : Nat} {A : Option Addr} {cap : Nat} {xs : List α} (h : Vec k e enc w q be A cap xs) : xs.length ≤ cap := by
  rcases h with ⟨_, _, rfl, rfl⟩ | ⟨_, _, h, _⟩
  · simp
  · exact h
theorem Vec.keep {w w' : World} {q be : Nat} {A : Option Addr} {cap : Nat} {xs : List α} {l : List Nat} (h : Vec k e enc w q be A cap xs) (hc : Chg l w w') (hb : be ∉ l) : Vec k e enc w' q be A cap xs :=
  h.imp id fun ⟨h1, h2, h3, r, h4, h5⟩ => ⟨h1, h2, h3, r, hc.keep h4 hb, h5⟩
theorem Vec.old {w : World} {q be : Nat} {A : Option Addr} {cap : Nat} {xs : List α} (h : Vec k e enc w q be A cap xs) (hq : Old w q) : Old w be := by
  rcases h with ⟨rfl, _⟩ | ⟨_, _, _, r, h4, _⟩
  · exact hq
  · exact Go.Proofs.YtadeoflkppiflaaGreatDoor.old h4
theorem Vec.there {w : World} {q be : Nat} {A : Option Addr} {cap : Nat} {xs : List α} (h : Vec k e enc w q be A cap xs) (h0 : 0 < xs.length) : be ≠ q ∧ A = some ⟨be, 0, none⟩ ∧ ∃ r : List Value, w.heap[be]? = some (.cells (sq enc xs r) e (0, 0)) ∧ xs.length * k + r.length = cap * k := by
  rcases h with ⟨_, _, _, rfl⟩ | ⟨h1, h2, _, h3⟩
  · simp at h0
  · exact ⟨h1, h2, h3⟩
theorem Vec.sl (hk : ∀ a, (enc a).length = k) {w : World} {q be : Nat} {A : Option Addr} {cap : Nat} {xs : List α} (h : Vec k e enc w q be A cap xs) : Sl w k A xs.length (cat enc xs) := by
  refine ⟨cat_length hk xs, ?_⟩
  rcases h with ⟨_, _, _, rfl⟩ | ⟨_, rfl, _, r, h4, _⟩
  · exact .inl rfl
  · exact .inr ⟨be, 0, _, e, (0, 0), rfl, h4, by rw [sq_toList, List.drop_zero, List.take_append_of_le_length (by rw [cat_length hk]; exact Nat.le_refl _), List.take_of_length_le (by rw [cat_length hk]; exact Nat.le_refl _)]⟩
/-- Elements i on. -/
theorem Vec.slFrom (hk : ∀ a, (enc a).length = k) {w : World} {q be : Nat} {cap : Nat} {xs : List α} (h : Vec k e enc w q be (some ⟨be, 0, none⟩) cap xs) {i : Nat} (hi : i ≤ xs.length) : Sl w k (some ⟨be, i * k, none⟩) (xs.length - i) (cat enc (xs.drop i)) := by
  refine ⟨by rw [cat_length hk, List.length_drop], ?_⟩
  rcases h with ⟨_, h, _⟩ | ⟨_, _, _, r, h4, _⟩
  · cases h
  · have hm : i * k ≤ xs.length * k := Nat.mul_le_mul_right _ hi
    refine .inr ⟨be, i * k, _, e, (0, 0), rfl, h4, ?_⟩
    rw [sq_toList, List.drop_append_of_le_length (by rw [cat_length hk]; exact hm), cat_drop hk, List.take_append_of_le_length (by rw [cat_length hk, List.length_drop]; exact Nat.le_refl _), List.take_of_length_le (by rw [cat_length hk, List.length_drop]; exact Nat.le_refl _)]
/-- Elements appended: none, into the room that there is, into a new block. -/
theorem Vec.app (E : Elt P t e k bytes z enc) {w : World} {q be : Nat} {A : Option Addr} {cap : Nat} {xs : List α} (hv : Vec k e enc w q be A cap xs) (hq : Old w q)
    {B : Option Addr} {m c : Nat} {ys : List α} (hs : Sl w k B m (cat enc ys)) (hm : ys.length = m) (hB : (xs.length + m) * bytes ≤ 140737488355328) (h63 : xs.length + m ≤ maxLen) :
    ∃ (be' cap' : Nat) (A' : Option Addr) (w' : World), appR P t ty #[.slice A xs.length cap, .slice B m c] w = .ok (.slice A' (xs.length + m) cap') w' ∧ Vec k e enc w' q be' A' cap' (xs ++ ys) ∧ (be' = be ∨ w.heap.size ≤ be') ∧ Chg [be] w w' ∧ w'.heap[q]? = w.heap[q]? := by
  obtain ⟨i0, hi0, hz0, hz1, hz2⟩ := info_parts E.info
  subst hz1
  subst hz2
  have h63' : xs.length + m ≤ 9223372036854775807 := by simp only [maxLen] at h63; omega
  rcases Nat.eq_zero_or_pos m with h0 | h0
  · subst h0
    obtain rfl : ys = [] := List.eq_nil_of_length_eq_zero hm
    have hfc := run_firstCells_sl (P := P) w i0.size 0 B 0 c [] ⟨by simp, .inl rfl⟩
    refine ⟨be, cap, A, w, ?_, by simpa using hv, .inl rfl, Chg.refl _ _, rfl⟩
    have hle := hv.le
    unfold appR
    cases A with
    | none => simp [Builtin.append_, run_underlying E.slice, sizeOf, typeInfo, hi0, Builtin.lenOf, hfc, hle]
    | some a => simp [Builtin.append_, run_underlying E.slice, sizeOf, typeInfo, hi0, Builtin.lenOf, hfc, hle, storeCells]
  · obtain ⟨b, o, rfl⟩ := hs.addr h0
    have hcells : ∀ j v, (cat enc ys)[j]? = some v → w.cell? ((⟨b, o, none⟩ : Addr).add j) = some v := hs.cells
    have hlen : (cat enc ys).length = m * i0.size := hs.1
    rcases hv with ⟨rfl, rfl, rfl, rfl⟩ | ⟨hne, rfl, hle, r, hb, hr⟩
    · have := run_append_nil (P := P) w t ty e i0 z E.slice hi0 hz0 ⟨b, o, none⟩ m c (cat enc ys) hlen hcells h0 (by rw [List.length_nil, Nat.zero_add] at h63'; omega) (by rw [List.length_nil, Nat.zero_add] at hB; omega)
      have hge := grownCap_ge w m 0 e
      refine ⟨w.heap.size, grownCap w m 0 e, some ⟨w.heap.size, 0, none⟩, _, by simpa [appR] using this, ?_, .inr (Nat.le_refl _), (Chg.refl _ _).drew.alloc _, ?_⟩
      · refine .inr ⟨by have := hq.lt; omega, rfl, by simp [hm]; exact hge, (Builtin.zeroCells z.cells (grownCap w m 0 e - m)).toList, ?_, ?_⟩
        · rw [heap_alloc]
          have h2 : w.drew.heap[w.heap.size]? = none := Array.getElem?_eq_none (Nat.le_refl _)
          have h3 : w.heap.size = w.drew.heap.size := rfl
          rw [h2, if_pos h3]
          simp [sq]
        · simp only [List.nil_append, hm, Array.length_toList, size_zeroCells, E.zero]
          rw [← Nat.add_mul]; congr 1; omega
      · rw [heap_alloc, heap_drew, if_neg (by have h1 := hq.lt; have h2 : w.drew.heap.size = w.heap.size := rfl; omega), Option.or_none]
    · by_cases hroom : xs.length + m ≤ cap
      · have hmul : (xs.length + m) * i0.size ≤ cap * i0.size := Nat.mul_le_mul_right _ hroom
        rw [Nat.add_mul] at hmul
        have hsz : (sq enc xs r).size = xs.length * i0.size + r.length := sq_size E.len xs r
        have hrow : rowHas (w.heap[be]?) (xs.length * i0.size) (cat enc ys).length = true := by
          rw [hb, rowHas_some, hsz, hlen]
          exact decide_eq_true (show _ ≤ _ by omega)
        have hr2 := run_append_room_cells (P := P) w t ty e i0 E.slice hi0 be 0 xs.length cap ⟨b, o, none⟩ m c (cat enc ys) hlen hcells (cat_one_cell E.one ys) hroom
          (by intro j hj; rw [Nat.zero_add, cell_row, hb, rowCell_some]; simp; rw [hsz]; omega)
          (by intro j hj; rw [Nat.zero_add, frozen_row, hb, rowFrozen_some])
        rw [Nat.zero_add] at hr2
        refine ⟨be, cap, _, _, hr2, .inr ⟨hne, rfl, by simp [hm, hroom], r.drop (m * i0.size), ?_, ?_⟩, .inl rfl, Chg.setCells be (.inl (by simp)) _ _ _ (Chg.refl _ _), ?_⟩
        · rw [heap_setCells _ _ _ _ _ hrow, if_pos rfl, hb, rowPut_some, sq_toList]
          congr 2
          unfold sq splice
          rw [List.toList_toArray, List.take_append_of_le_length (by rw [cat_length E.len]; exact Nat.le_refl _), List.take_of_length_le (by rw [cat_length E.len]; exact Nat.le_refl _), cat_append, hlen, List.drop_append, cat_length E.len, List.drop_eq_nil_of_le (by rw [cat_length E.len]; omega), List.nil_append]
          congr 3
          omega
        · simp only [List.length_append, hm, List.length_drop]
          rw [Nat.add_mul]; omega
        · rw [heap_setCells _ _ _ _ _ hrow, if_neg (Ne.symm hne)]
      · have holds : ∀ j v, (cat enc xs)[j]? = some v → w.cell? ((⟨be, 0, none⟩ : Addr).add j) = some v := by
          intro j v hv
          have hj := (List.getElem?_eq_some_iff.1 hv).1
          rw [Addr.add_mid, cell_row, hb, rowCell_some]
          unfold sq
          rw [List.getElem?_toArray, Nat.zero_add, List.getElem?_append_left hj]
          exact hv
        have hgr := run_append_grow (P := P) w t ty e i0 z E.slice hi0 hz0 ⟨be, 0, none⟩ xs.length cap (cat enc xs) (cat_length E.len xs) holds ⟨b, o, none⟩ m c (cat enc ys) hlen hcells (by omega) (by omega) (growslice_fits (by omega) hB)
        have hge := grownCap_ge w (xs.length + m) cap e
        refine ⟨w.heap.size, grownCap w (xs.length + m) cap e, _, _, hgr, ?_, .inr (Nat.le_refl _), (Chg.refl _ _).drew.alloc _, ?_⟩
        · refine .inr ⟨by have := hq.lt; omega, rfl, by simp [hm]; exact hge, (Builtin.zeroCells z.cells (grownCap w (xs.length + m) cap e - (xs.length + m))).toList, ?_, ?_⟩
          · rw [heap_alloc]
            have h2 : w.drew.heap[w.heap.size]? = none := Array.getElem?_eq_none (Nat.le_refl _)
            have h3 : w.heap.size = w.drew.heap.size := rfl
            rw [h2, if_pos h3]
            simp [sq, cat_append]
          · simp only [List.length_append, hm, Array.length_toList, size_zeroCells, E.zero]
            rw [← Nat.add_mul]; congr 1; omega
        · rw [heap_alloc, heap_drew, if_neg (by have h1 := hq.lt; have h2 : w.drew.heap.size = w.heap.size := rfl; omega), Option.or_none]

theorem Chg.less {q : Nat} {w w' : World} (h : Chg [q] w w') (hq : w'.heap[q]? = w.heap[q]?) : Chg [] w w' :=
  ⟨h.os, h.tape, h.output, h.size, fun j hj _ => by
    by_cases e : j = q
    · rw [e, hq]
    · exact h.block j hj (by simpa using e)⟩
/-- The same for a slice that grows while nothing that was there at first is changed. -/
theorem Vec.acc (E : Elt P t e k bytes z enc) {w0 w : World} {q be : Nat} {A : Option Addr} {cap : Nat} {xs : List α} (hc : Chg [] w0 w) (hv : Vec k e enc w q be A cap xs) (hbe : be = q ∨ w0.heap.size ≤ be) (hq : Old w0 q)
    {B : Option Addr} {m c : Nat} {ys : List α} (hs : Sl w k B m (cat enc ys)) (hm : ys.length = m) (hB : (xs.length + m) * bytes ≤ 140737488355328) (h63 : xs.length + m ≤ maxLen) :
    ∃ (be' cap' : Nat) (A' : Option Addr) (w' : World), appR P t ty #[.slice A xs.length cap, .slice B m c] w = .ok (.slice A' (xs.length + m) cap') w' ∧ Vec k e enc w' q be' A' cap' (xs ++ ys) ∧ (be' = q ∨ w0.heap.size ≤ be') ∧ Chg [] w0 w' := by
  obtain ⟨be', cap', A', w', h1, h2, h3, h4, h5⟩ := hv.app (ty := ty) E (hq.chg hc) hs (c := c) hm hB h63
  have hsz := hc.size
  refine ⟨be', cap', A', w', h1, h2, ?_, ?_⟩
  · rcases h3 with rfl | h3
    · exact hbe
    · exact .inr (by omega)
  · rcases hbe with rfl | hbe
    · exact hc.trans (h4.less h5)
    · exact hc.trans' h4 (by simpa using hbe)
/-- 'copy(d, x)' where d has no fewer elements than x. -/
theorem run_copy_sl {t' : TypeId} {i : TypeInfo} (ht : P.underlying t = some (.slice e)) (hi : P.info? e = some i) (w : World) (b o : Nat) (A : Option Addr) (n c m d : Nat) (xs : List Value) (h : Sl w i.size A n xs) (hn : n ≤ m) (h1 : ∀ v ∈ xs, v.oneCell' = true) (hb : rowHas (w.heap[b]?) o xs.length = true) :
    copR P t t' ty #[.slice (some ⟨b, o, none⟩) m d, .slice A n c] w = .ok (goInt n) (putRow w b o xs.toArray) := by
  have hf := run_firstCells_sl (P := P) w i.size n A n c xs h
  have hst := run_storeCells_cells (P := P) b o xs 0 w ?_ ?_ h1
  · simp only [Nat.add_zero] at hst
    have hmin : Nat.min n m = n := Nat.min_eq_left hn
    simp [copR, Builtin.copy_, run_underlying ht, Builtin.lenOf, sizeOf, typeInfo, hi, hf, hst, putRow, hmin]
  all_goals
    intro j hj
    rw [Nat.add_zero]
    cases e : w.heap[b]? with
    | none => rw [e] at hb; cases hb
    | some x =>
      rw [e] at hb
      cases x with
      | cells c t f =>
        simp [rowHas] at hb
        obtain ⟨hb, rfl⟩ := hb
        have := hb.out
        first
          | (rw [cell_row, e, rowCell_some]; simp; omega)
          | (rw [frozen_row, e, rowFrozen_some])
      | _ => simp [rowHas] at hb
/-- 'clear(s)' of some elements, of none. -/
theorem run_clear_sl (ht : P.underlying t = some (.slice e)) (hv : ∀ w, (zeroValue e).run P w = .ok z w) (h1 : ∀ v ∈ z.cells, v.oneCell' = true) (w : World) (b o n c : Nat) (h0 : 0 < n) (hb : rowHas (w.heap[b]?) o (n * z.cells.size) = true) :
    clrR P t ty #[.slice (some ⟨b, o, none⟩) n c] w = .ok (.tuple #[]) (putRow w b o (Builtin.zeroCells z.cells n)) := by
  obtain ⟨m, rfl⟩ : ∃ m, n = m + 1 := ⟨n - 1, by omega⟩
  have hst := run_storeCells_cells (P := P) b o (Builtin.zeroCells z.cells (m + 1)).toList 0 w ?_ ?_ ?_
  · simp only [Nat.add_zero] at hst
    simp [clrR, Builtin.clear_, run_underlying ht, hv, hst, putRow]
  · intro j hj
    rw [Nat.add_zero]
    have hj' : j < (m + 1) * z.cells.size := by simpa [size_zeroCells] using hj
    cases e : w.heap[b]? with
    | none => rw [e] at hb; cases hb
    | some x =>
      rw [e] at hb
      cases x with
      | cells c t f =>
        simp [rowHas] at hb
        have := hb.1.out
        rw [cell_row, e, rowCell_some]; simp; omega
      | _ => simp [rowHas] at hb
  · intro j hj
    rw [Nat.add_zero]
    cases e : w.heap[b]? with
    | none => rw [e] at hb; cases hb
    | some x =>
      rw [e] at hb
      cases x with
      | cells c t f =>
        simp [rowHas] at hb
        obtain ⟨hb, rfl⟩ := hb
        rw [frozen_row, e, rowFrozen_some]
      | _ => simp [rowHas] at hb
  · intro v hv'
    simp only [Builtin.zeroCells, Array.toList_map, List.mem_map] at hv'
    obtain ⟨k, hk, rfl⟩ := hv'
    have hk' : k < (m + 1) * z.cells.size := by simpa using hk
    have hz0 : 0 < z.cells.size := by
      rcases Nat.eq_zero_or_pos z.cells.size with h | h
      · rw [h] at hk'; omega
      · exact h
    have hlt := Nat.mod_lt k hz0
    rw [getElem!_pos z.cells (k % z.cells.size) hlt]
    exact h1 _ (Array.getElem_mem hlt)
theorem run_clear_sl0 (ht : P.underlying t = some (.slice e)) (w : World) (A : Option Addr) (c : Nat) : clrR P t ty #[.slice A 0 c] w = .ok (.tuple #[]) w := by
  cases A <;> simp [clrR, Builtin.clear_, run_underlying ht]
end
/-! ### A value of many cells put into a row of cells, as the walk spells it -/
theorem fold_put_list {o : Nat} : ∀ (l : List Value) (C : Array Value) (j : Nat), o + j + l.length ≤ C.size → (l.zipIdx j).foldl (fun cs y => cs.setIfInBounds (o + y.snd) y.fst) C = (splice C.toList (o + j) l).toArray
  | [], C, j, _ => by simp [splice]
  | v :: l, C, j, h => by
    simp only [List.length_cons] at h
    rw [List.zipIdx_cons, List.foldl_cons, fold_put_list l _ (j + 1) (by simp; omega), Array.toList_setIfInBounds, ← Nat.add_assoc, splice_cons _ _ _ _ (by simp; omega)]
theorem fold_put (C v : Array Value) (o n : Nat) (hv : v.size = n) (h : o + n ≤ C.size) : Array.foldl (fun cs y => cs.setIfInBounds (o + y.snd) y.fst) C v.zipIdx 0 n = (splice C.toList o v.toList).toArray := by
  have e : n = v.zipIdx.size := by simp [hv]
  subst e
  rw [← Array.foldl_toList, Array.toList_zipIdx]
  have := fold_put_list (o := o) v.toList C 0 (by simpa using h)
  simpa using this
theorem fold_all (C v : Array Value) (n : Nat) (hv : v.size = n) (h : C.size = n) : Array.foldl (fun cs y => cs.setIfInBounds y.snd y.fst) C v.zipIdx 0 n = v := by
  have := fold_put C v 0 n hv (by omega)
  simp only [Nat.zero_add] at this
  rw [this, splice_all _ _ (by simp; omega), Array.toArray_toList]
theorem fold_vs (a0 a1 a2 a3 a4 a5 a6 a7 : Value) (l : List Int) (h : l.length = 8) : Array.foldl (fun cs y => cs.setIfInBounds y.snd y.fst) #[a0, a1, a2, a3, a4, a5, a6, a7] (vs l).zipIdx 0 8 = vs l :=
  fold_all _ _ _ (by rw [vs_size, h]) rfl
/-- Element i of a slice of one-cell elements. -/
theorem Sl.cell {w : World} {b o n : Nat} {xs : List Value} (h : Sl w 1 (some ⟨b, o, none⟩) n xs) {i : Nat} (hi : i < n) :
    ∃ c t f, w.heap[b]? = some (.cells c t f) ∧ c[o + i]? = xs[i]? := by
  obtain ⟨h1, h2⟩ := h
  rcases h2 with h2 | ⟨b', o', c, t, f, he, hb, hx⟩
  · omega
  · injection he with he; injection he with h3 h4; subst h3; subst h4
    refine ⟨c, t, f, hb, ?_⟩
    rw [← hx, Nat.mul_one, List.getElem?_take_of_lt hi, List.getElem?_drop, Array.getElem?_toList]
/-- Element i of a slice, cell by cell and piece by piece. -/
theorem Sl.elem {w : World} {size b o n : Nat} {xs ys : List Value} (h0 : 0 < size) (h : Sl w size (some ⟨b, o, none⟩) n xs) {i : Nat} (hi : i < n) (hy : (xs.drop (i * size)).take size = ys) :
    ∃ c t f, w.heap[b]? = some (.cells c t f) ∧ (∀ d, d < size → c[o + i * size + d]? = ys[d]?) ∧ ∀ d m, d + m ≤ size → rowIn (some (.cells c t f)) (o + i * size + d) m = true ∧ rowPart (some (.cells c t f)) (o + i * size + d) m = ((ys.drop d).take m).toArray := by
  obtain ⟨h1, h2⟩ := h
  rcases h2 with h2 | ⟨b', o', c, t, f, he, hb, hx⟩
  · omega
  · injection he with he; injection he with h3 h4; subst h3; subst h4; subst hy
    have hle : (i + 1) * size ≤ n * size := Nat.mul_le_mul_right _ (by omega)
    rw [Nat.add_mul] at hle
    have hlen := congrArg List.length hx
    simp only [List.length_take, List.length_drop, Array.length_toList] at hlen
    refine ⟨c, t, f, hb, fun d hd => ?_, fun d m hdm => ⟨?_, ?_⟩⟩
    · rw [← hx, List.getElem?_take_of_lt hd, List.getElem?_drop, List.getElem?_take_of_lt (by omega), List.getElem?_drop, Array.getElem?_toList]
      congr 1; omega
    · rw [rowIn_some]
      exact decide_eq_true (show o + i * size + d + m ≤ c.size by omega)
    · rw [rowPart_some, ← hx]
      simp only [List.drop_take, List.take_take, List.drop_drop]
      have e1 : min m (min (size - d) (n * size - i * size - d)) = m := by omega
      have e2 : min (min m (size - d)) (n * size - i * size - d) = m := by omega
      first
        | rw [e1]
        | rw [e2]
        | skip
      congr 2
      all_goals (try omega)
end Go.Proofs.YtadeoflkppiflaaGreatDoor
end
section
namespace Go.Proofs.YtadeoflkppiflaaGreatDoor
open Go.RowKit
set_option linter.unusedVariables false
section
variable {α : Type} {enc : α → List Value} {k bytes : Nat} {P : Program} {t ty e : TypeId} {z : Value}
/-- A block's cells: some that are gone, elements, then others. -/
def sqo (enc : α → List Value) (p : List Value) (xs : List α) (r : List Value) : Array Value := (p ++ (cat enc xs ++ r)).toArray
theorem sqo_size (hk : ∀ a, (enc a).length = k) (p : List Value) (xs : List α) (r : List Value) : (sqo enc p xs r).size = p.length + xs.length * k + r.length := by simp [sqo, cat_length hk]; omega
theorem sqo_toList (p : List Value) (xs : List α) (r : List Value) : (sqo enc p xs r).toList = p ++ (cat enc xs ++ r) := by simp [sqo]
/-- A variable that is a slice of its own block be, from some place on (be is q where there is none yet). -/
def Vof (k : Nat) (e : TypeId) (enc : α → List Value) (w : World) (q be : Nat) (A : Option Addr) (cap : Nat) (xs : List α) : Prop :=
  (be = q ∧ A = none ∧ cap = 0 ∧ xs = []) ∨ (be ≠ q ∧ xs.length ≤ cap ∧ ∃ (o : Nat) (p r : List Value), A = some ⟨be, o, none⟩ ∧ p.length = o ∧ w.heap[be]? = some (.cells (sqo enc p xs r) e (0, 0)) ∧ cap * k ≤ xs.length * k + r.length)
theorem Vof.nil (k : Nat) (e : TypeId) (enc : α → List Value) (w : World) (q : Nat) : Vof k e enc w q q none 0 ([] : List α) := .inl ⟨rfl, rfl, rfl, rfl⟩
section
variable {w w' : World} {q be : Nat} {A : Option Addr} {cap : Nat} {xs : List α}
theorem Vof.le (h : Vof k e enc w q be A cap xs) : xs.length ≤ cap := by
  rcases h with ⟨_, _, rfl, rfl⟩ | ⟨_, h, _⟩
  · simp
  · exact h
theorem Vof.keep {l : List Nat} (h : Vof k e enc w q be A cap xs) (hc : Chg l w w') (hb : be ∉ l) : Vof k e enc w' q be A cap xs :=
  h.imp id fun ⟨h1, h2, o, p, r, h3, h4, h5, h6⟩ => ⟨h1, h2, o, p, r, h3, h4, hc.keep h5 hb, h6⟩
theorem Vof.old (h : Vof k e enc w q be A cap xs) (hq : Old w q) : Old w be := by
  rcases h with ⟨rfl, _⟩ | ⟨_, _, o, p, r, _, _, h5, _⟩
  · exact hq
  · exact Go.Proofs.YtadeoflkppiflaaGreatDoor.old h5
theorem Vof.sl (hk : ∀ a, (enc a).length = k) (h : Vof k e enc w q be A cap xs) : Sl w k A xs.length (cat enc xs) := by
  refine ⟨cat_length hk xs, ?_⟩
  rcases h with ⟨_, _, _, rfl⟩ | ⟨_, _, o, p, r, rfl, rfl, h5, _⟩
  · exact .inl rfl
  · refine .inr ⟨be, _, _, e, (0, 0), rfl, h5, ?_⟩
    rw [sqo_toList, List.drop_append_of_le_length (Nat.le_refl _), List.drop_eq_nil_of_le (Nat.le_refl _), List.nil_append, List.take_append_of_le_length (by rw [cat_length hk]; exact Nat.le_refl _), List.take_of_length_le (by rw [cat_length hk]; exact Nat.le_refl _)]
/-- The place behind the first element, as the program reckons it. -/
def behind (k : Nat) (A : Option Addr) (cap : Nat) : Option Addr := if cap = 1 then A else A.map (·.add (1 * k))
/-- Cut at the head. -/
theorem Vof.tail {x : α} {xs : List α} (hk : ∀ a, (enc a).length = k) (h : Vof k e enc w q be A cap (x :: xs)) : Vof k e enc w q be (behind k A cap) (cap - 1) xs := by
  rcases h with ⟨_, _, _, h⟩ | ⟨h1, h2, o, p, r, rfl, rfl, h5, h6⟩
  · cases h
  · simp only [List.length_cons] at h2 h6
    rw [Nat.add_mul] at h6
    have hm : (cap - 1) * k + 1 * k = cap * k := by rw [← Nat.add_mul]; congr 1; omega
    refine .inr ⟨h1, by omega, ?_⟩
    unfold behind
    split
    · rename_i h0
      have e0 : xs = [] := List.eq_nil_of_length_eq_zero (by omega)
      subst e0
      refine ⟨_, p, enc x ++ r, rfl, rfl, ?_, by rw [h0]; simp⟩
      rw [h5]
      simp [sqo, cat]
    · refine ⟨p.length + 1 * k, p ++ enc x, r, by rw [Option.map_some, Addr.add_mid], by simp [hk], ?_, by omega⟩
      rw [h5]
      simp [sqo, cat_cons]
/-- 'x[1:]', closed to the walk. -/
def slS (t : TypeId) (x : Value) (lo hi mx : Option Value) : Sem Value := Instr.slice t x lo hi mx
def slR (P : Program) (t : TypeId) (x : Value) (lo hi mx : Option Value) (w : World) : Result Value := (Instr.slice t x lo hi mx).run P w
theorem slice_slS (t : TypeId) (x : Value) (lo hi mx : Option Value) : Instr.slice t x lo hi mx = slS t x lo hi mx := rfl
theorem run_slS (P : Program) (t : TypeId) (x : Value) (lo hi mx : Option Value) (w : World) : (slS t x lo hi mx).run P w = slR P t x lo hi mx w := rfl
theorem slR_tail (E : Elt P t e k bytes z enc) (A : Option Addr) (n cap : Nat) (hc : n + 1 ≤ cap) (w : World) : slR P t (.slice A (n + 1) cap) (some (.int .i64 1)) none none w = .ok (.slice (behind k A cap) n (cap - 1)) w := by
  obtain ⟨i0, hi0, hz0, hz1, hz2⟩ := info_parts E.info
  subst hz1
  unfold slR behind
  have h1 : (0 : Int) ≤ 1 := by omega
  have h2 : (1 : Int) ≤ ((n + 1 : Nat) : Int) := by omega
  simp [Instr.slice, Instr.sliceBounds, Instr.sliceBound, asIntOf, run_underlying E.slice, sizeOf, typeInfo, hi0]
  intro h; omega
/-- The first element. -/
theorem Vof.first {x : α} {xs : List α} (hk : ∀ a, (enc a).length = k) (h : Vof k e enc w q be A cap (x :: xs)) :
    be ≠ q ∧ ∃ (o : Nat) (C : Array Value), A = some ⟨be, o, none⟩ ∧ w.heap[be]? = some (.cells C e (0, 0)) ∧ rowIn (some (.cells C e (0, 0))) o k = true ∧ rowPart (some (.cells C e (0, 0))) o k = (enc x).toArray := by
  rcases h with ⟨_, _, _, h⟩ | ⟨h1, h2, o, p, r, rfl, rfl, h5, h6⟩
  · cases h
  · refine ⟨h1, _, _, rfl, h5, ?_, ?_⟩
    · rw [rowIn_some, sqo_size hk]
      refine decide_eq_true (show _ ≤ _ from ?_)
      simp only [List.length_cons, Nat.add_mul]; omega
    · rw [rowPart_some, sqo_toList, List.drop_append_of_le_length (Nat.le_refl _), List.drop_eq_nil_of_le (Nat.le_refl _), List.nil_append, cat_cons, List.append_assoc, List.take_append_of_le_length (by rw [hk]; exact Nat.le_refl _), List.take_of_length_le (by rw [hk]; exact Nat.le_refl _)]
end
/-- Elements appended: none, into the room that there is, into a new block. -/
theorem Vof.app (E : Elt P t e k bytes z enc) {w : World} {q be : Nat} {A : Option Addr} {cap : Nat} {xs : List α} (hv : Vof k e enc w q be A cap xs) (hq : Old w q)
    {B : Option Addr} {m c : Nat} {ys : List α} (hs : Sl w k B m (cat enc ys)) (hm : ys.length = m) (hB : (xs.length + m) * bytes ≤ 140737488355328) (h63 : xs.length + m ≤ maxLen) :
    ∃ (be' cap' : Nat) (A' : Option Addr) (w' : World), appR P t ty #[.slice A xs.length cap, .slice B m c] w = .ok (.slice A' (xs.length + m) cap') w' ∧ Vof k e enc w' q be' A' cap' (xs ++ ys) ∧ (be' = be ∨ w.heap.size ≤ be') ∧ Chg [be] w w' ∧ w'.heap[q]? = w.heap[q]? := by
  obtain ⟨i0, hi0, hz0, hz1, hz2⟩ := info_parts E.info
  subst hz1
  subst hz2
  have h63' : xs.length + m ≤ 9223372036854775807 := by simp only [maxLen] at h63; omega
  rcases Nat.eq_zero_or_pos m with h0 | h0
  · subst h0
    obtain rfl : ys = [] := List.eq_nil_of_length_eq_zero hm
    have hfc := run_firstCells_sl (P := P) w i0.size 0 B 0 c [] ⟨by simp, .inl rfl⟩
    refine ⟨be, cap, A, w, ?_, by simpa using hv, .inl rfl, Chg.refl _ _, rfl⟩
    have hle := hv.le
    unfold appR
    cases A with
    | none => simp [Builtin.append_, run_underlying E.slice, sizeOf, typeInfo, hi0, Builtin.lenOf, hfc, hle]
    | some a => simp [Builtin.append_, run_underlying E.slice, sizeOf, typeInfo, hi0, Builtin.lenOf, hfc, hle, storeCells]
  · obtain ⟨b, o, rfl⟩ := hs.addr h0
    have hcells : ∀ j v, (cat enc ys)[j]? = some v → w.cell? ((⟨b, o, none⟩ : Addr).add j) = some v := hs.cells
    have hlen : (cat enc ys).length = m * i0.size := hs.1
    have holdS := hv.sl E.len
    rcases hv with ⟨rfl, rfl, rfl, rfl⟩ | ⟨hne, hle, o1, p, r, rfl, rfl, hb, hr⟩
    · have := run_append_nil (P := P) w t ty e i0 z E.slice hi0 hz0 ⟨b, o, none⟩ m c (cat enc ys) hlen hcells h0 (by rw [List.length_nil, Nat.zero_add] at h63'; omega) (by rw [List.length_nil, Nat.zero_add] at hB; omega)
      have hge := grownCap_ge w m 0 e
      refine ⟨w.heap.size, grownCap w m 0 e, some ⟨w.heap.size, 0, none⟩, _, by simpa [appR] using this, ?_, .inr (Nat.le_refl _), (Chg.refl _ _).drew.alloc _, ?_⟩
      · refine .inr ⟨by have := hq.lt; omega, by simp [hm]; exact hge, 0, [], (Builtin.zeroCells z.cells (grownCap w m 0 e - m)).toList, rfl, rfl, ?_, ?_⟩
        · rw [heap_alloc]
          have h2 : w.drew.heap[w.heap.size]? = none := Array.getElem?_eq_none (Nat.le_refl _)
          have h3 : w.heap.size = w.drew.heap.size := rfl
          rw [h2, if_pos h3]
          simp [sqo]
        · simp only [List.nil_append, hm, Array.length_toList, size_zeroCells, E.zero]
          rw [← Nat.add_mul]; apply Nat.mul_le_mul_right; omega
      · rw [heap_alloc, heap_drew, if_neg (by have h1 := hq.lt; have h2 : w.drew.heap.size = w.heap.size := rfl; omega), Option.or_none]
    · by_cases hroom : xs.length + m ≤ cap
      · have hmul : (xs.length + m) * i0.size ≤ cap * i0.size := Nat.mul_le_mul_right _ hroom
        rw [Nat.add_mul] at hmul
        have hsz : (sqo enc p xs r).size = p.length + xs.length * i0.size + r.length := sqo_size E.len p xs r
        have hrow : rowHas (w.heap[be]?) (p.length + xs.length * i0.size) (cat enc ys).length = true := by
          rw [hb, rowHas_some, hsz, hlen]
          exact decide_eq_true (show _ ≤ _ by omega)
        have hr2 := run_append_room_cells (P := P) w t ty e i0 E.slice hi0 be p.length xs.length cap ⟨b, o, none⟩ m c (cat enc ys) hlen hcells (cat_one_cell E.one ys) hroom
          (by intro j hj; rw [cell_row, hb, rowCell_some]; simp; rw [hsz]; omega)
          (by intro j hj; rw [frozen_row, hb, rowFrozen_some])
        refine ⟨be, cap, _, _, hr2, .inr ⟨hne, by simp [hm, hroom], p.length, p, r.drop (m * i0.size), rfl, rfl, ?_, ?_⟩, .inl rfl, Chg.setCells be (.inl (by simp)) _ _ _ (Chg.refl _ _), ?_⟩
        · rw [heap_setCells _ _ _ _ _ hrow, if_pos rfl, hb, rowPut_some, sqo_toList]
          congr 2
          unfold sqo splice
          congr 1
          have e1 : (cat enc xs).length = xs.length * i0.size := cat_length E.len xs
          have e2 : (p ++ (cat enc xs ++ r)).take (p.length + xs.length * i0.size) = p ++ cat enc xs := by
            rw [← List.append_assoc, List.take_append_of_le_length (by simp; omega), List.take_of_length_le (by simp; omega)]
          have e3 : (p ++ (cat enc xs ++ r)).drop (p.length + xs.length * i0.size + m * i0.size) = r.drop (m * i0.size) := by
            rw [← List.append_assoc, List.drop_append, List.drop_eq_nil_of_le (by simp; omega), List.nil_append]
            congr 1
            simp [e1]
          rw [List.toList_toArray, hlen, e2, e3, cat_append]
          simp only [List.append_assoc]
        · simp only [List.length_append, hm, List.length_drop]
          rw [Nat.add_mul]; omega
        · rw [heap_setCells _ _ _ _ _ hrow, if_neg (Ne.symm hne)]
      · have hgr := run_append_grow (P := P) w t ty e i0 z E.slice hi0 hz0 ⟨be, p.length, none⟩ xs.length cap (cat enc xs) (cat_length E.len xs) holdS.cells ⟨b, o, none⟩ m c (cat enc ys) hlen hcells (by omega) (by omega) (growslice_fits (by omega) hB)
        have hge := grownCap_ge w (xs.length + m) cap e
        refine ⟨w.heap.size, grownCap w (xs.length + m) cap e, _, _, hgr, ?_, .inr (Nat.le_refl _), (Chg.refl _ _).drew.alloc _, ?_⟩
        · refine .inr ⟨by have := hq.lt; omega, by simp [hm]; exact hge, 0, [], (Builtin.zeroCells z.cells (grownCap w (xs.length + m) cap e - (xs.length + m))).toList, rfl, rfl, ?_, ?_⟩
          · rw [heap_alloc]
            have h2 : w.drew.heap[w.heap.size]? = none := Array.getElem?_eq_none (Nat.le_refl _)
            have h3 : w.heap.size = w.drew.heap.size := rfl
            rw [h2, if_pos h3]
            simp [sqo, cat_append]
          · simp only [List.length_append, hm, Array.length_toList, size_zeroCells, E.zero]
            rw [← Nat.add_mul]; apply Nat.mul_le_mul_right; omega
        · rw [heap_alloc, heap_drew, if_neg (by have h1 := hq.lt; have h2 : w.drew.heap.size = w.heap.size := rfl; omega), Option.or_none]
end
end Go.Proofs.YtadeoflkppiflaaGreatDoor
end
section
namespace Go.Proofs.YtadeoflkppiflaaGreatDoor
open Go.RowKit
set_option linter.unusedVariables false

/-- A message. -/
structure Ms where
  kd : Int
  li : Int
  di : Bool
  ke : Bool
  l : List Int
  h : l.length = 8
def Ms.enc (m : Ms) : List Value := .int .i64 m.kd :: .int .i64 m.li :: .bool m.di :: .bool m.ke :: m.l.map (Value.int .u64)
theorem Ms.len (m : Ms) : (Ms.enc m).length = 12 := by simp [Ms.enc, m.h]
theorem Ms.one (m : Ms) : ∀ v ∈ Ms.enc m, v.oneCell' = true := by
  intro v hv
  simp only [Ms.enc, List.mem_cons, List.mem_map] at hv
  rcases hv with rfl | rfl | rfl | rfl | ⟨x, _, rfl⟩ <;> rfl
/-- No message. -/
def msZ : Ms := ⟨0, 0, false, false, [0, 0, 0, 0, 0, 0, 0, 0], rfl⟩
/-- Its cells. -/
def msc (m : Ms) : Array Value := (Ms.enc m).toArray
def msV : Value := .agg (msc msZ)
theorem msV_size : msV.cells.size = 12 := rfl
theorem msV_one : ∀ v ∈ msV.cells, v.oneCell' = true := by intro v hv; exact Ms.one msZ v (by simpa [msV, Value.cells, msc] using hv)
theorem msc_size (m : Ms) : (msc m).size = 12 := by simp [msc, Ms.len]
theorem msc_one (m : Ms) : allOne (msc m) := allOne_list _ (List.all_eq_true.2 (Ms.one m))
theorem msc_kd (m : Ms) : (msc m)[0]? = some (.int .i64 m.kd) := by simp [msc, Ms.enc]
theorem msc_li (m : Ms) : (msc m)[1]? = some (.int .i64 m.li) := by simp [msc, Ms.enc]
theorem msc_di (m : Ms) : (msc m)[2]? = some (.bool m.di) := by simp [msc, Ms.enc]
theorem msc_ke (m : Ms) : (msc m)[3]? = some (.bool m.ke) := by simp [msc, Ms.enc]
theorem msc_part (m : Ms) (t : TypeId) (f : Nat × Nat) : rowPart (some (.cells (msc m) t f)) 4 8 = vs m.l := by
  rw [rowPart_some]
  have : m.l.length = 8 := m.h
  simp [msc, Ms.enc, vs, List.take_of_length_le, this]
theorem msc_in (m : Ms) (t : TypeId) (f : Nat × Nat) : rowIn (some (.cells (msc m) t f)) 4 8 = true := by
  rw [rowIn_some, msc_size]; exact decide_eq_true (show 4 + 8 ≤ 12 by omega)
theorem fold_msc (C : Array Value) (m : Ms) (h : C.size = 12) : Array.foldl (fun cs y => cs.setIfInBounds y.snd y.fst) C (msc m).zipIdx 0 12 = msc m := fold_all _ _ _ (msc_size m) h
/-- A message that was built of its kind, its line and its marks. -/
def ms4 (kd li : Int) (di ke : Bool) : Ms := ⟨kd, li, di, ke, [0, 0, 0, 0, 0, 0, 0, 0], rfl⟩
theorem ms4_lit (kd li : Int) (di ke : Bool) : (#[.int .i64 kd, .int .i64 li, .bool di, .bool ke, .int .u64 0, .int .u64 0, .int .u64 0, .int .u64 0, .int .u64 0, .int .u64 0, .int .u64 0, .int .u64 0] : Array Value) = msc (ms4 kd li di ke) := rfl
theorem Ms.same {a b : Ms} (h1 : a.kd = b.kd) (h2 : a.li = b.li) (h3 : a.di = b.di) (h4 : a.ke = b.ke) (h5 : a.l = b.l) : a = b := by
  cases a; cases b; simp_all
instance : DecidableEq Ms := fun a b => if h : a.kd = b.kd ∧ a.li = b.li ∧ a.di = b.di ∧ a.ke = b.ke ∧ a.l = b.l then isTrue (Ms.same h.1 h.2.1 h.2.2.1 h.2.2.2.1 h.2.2.2.2) else isFalse (fun e => h (by subst e; exact ⟨rfl, rfl, rfl, rfl, rfl⟩))

/-! ### Which way a kind goes; which messages have a form -/
def asksB (k : Int) : Bool := decide (1 ≤ k) && decide (k ≤ 5)
def answersB (k : Int) : Bool := decide (6 ≤ k) && decide (k ≤ 7)
def tellsB (k : Int) : Bool := decide (8 ≤ k) && decide (k ≤ 14)
def kindB (k : Int) : Bool := decide (1 ≤ k) && decide (k ≤ 14)
def lineB (i : Int) : Bool := decide (0 ≤ i) && decide (i ≤ 63)
def mayD (k : Int) : Bool := k == 3 || k == 6 || k == 7
def mayK (k : Int) : Bool := k == 7
def mayW (k : Int) : Bool := k == 8 || k == 9 || k == 10
def mg (m : Ms) : Bool := kindB m.kd && lineB m.li && (!m.di || mayD m.kd) && (!m.ke || mayK m.kd) && (mayW m.kd || m.di || m.l == [0, 0, 0, 0, 0, 0, 0, 0])
/-- What each kind may have, as it stands in memory. -/
def tabRow (k : Int) : List Value := [.bool (mayD k), .bool (mayK k), .bool (mayW k)]
def tabL : List Value := ((List.range 15).map fun k : Nat => tabRow k).flatten
def Tab (w : World) : Prop := ∃ t f, w.heap[1]? = some (.cells tabL.toArray t f)
theorem Tab.keep {w w' : World} {l : List Nat} (h : Tab w) (hc : Chg l w w') (h0 : 1 ∉ l) : Tab w' := by
  obtain ⟨t, f, h⟩ := h
  exact ⟨t, f, hc.keep h h0⟩
theorem Tab.old {w : World} (h : Tab w) : Old w 1 := by
  obtain ⟨t, f, h⟩ := h
  exact Go.Proofs.YtadeoflkppiflaaGreatDoor.old h
theorem Tab.old0 {w : World} (h : Tab w) : Old w 0 := Nat.lt_of_le_of_lt (Nat.zero_le _) h.old
theorem tab_row (k : Nat) (h : k < 15) (t : TypeId) (f : Nat × Nat) : rowIn (some (.cells tabL.toArray t f)) (k * 3) 3 = true ∧ rowPart (some (.cells tabL.toArray t f)) (k * 3) 3 = #[.bool (mayD k), .bool (mayK k), .bool (mayW k)] := by
  have : k = 0 ∨ k = 1 ∨ k = 2 ∨ k = 3 ∨ k = 4 ∨ k = 5 ∨ k = 6 ∨ k = 7 ∨ k = 8 ∨ k = 9 ∨ k = 10 ∨ k = 11 ∨ k = 12 ∨ k = 13 ∨ k = 14 := by omega
  rcases this with rfl | rfl | rfl | rfl | rfl | rfl | rfl | rfl | rfl | rfl | rfl | rfl | rfl | rfl | rfl <;> exact ⟨rfl, rfl⟩

/-! ### What calls of a queue answer and leave -/
def headM (xs : List Ms) : Ms := xs.headD msZ
def someB (xs : List Ms) : Bool := !xs.isEmpty
end Go.Proofs.YtadeoflkppiflaaGreatDoor
end
section
namespace Go.Proofs.YtadeoflkppiflaaGreatDoor
open Go.RowKit
set_option linter.unusedVariables false
theorem wideLine : Wide Tryz.prog 36 8 := ⟨⟨_, Tryz.underlying36, by rfl⟩, by kernel_rfl⟩
theorem loadLine (x : Value) : Instr.loadAt 36 x = loadS 36 8 x := rfl
theorem storeLine (x y : Value) : Instr.storeAt 36 x y = storeS 36 8 x y := rfl
attribute [local go_sem ↓] append_appS copy_copS clear_clrS make_mkS cell_row frozen_row loadLine storeLine heap_drew heap_drewN heap_alloc heap_past heap_setCell heap_putRow
attribute [local go_sem] rowCell_some rowFrozen_some rowHas_some rowIn_some rowPart_full rowPart_lit rowPut_full rowPut_lit rowSet_some size_putRow vs_size vs_one wideLine run_loadS run_storeS run_appS run_copS run_clrS run_mkS loadW_at storeW_at fit_all one_int one_bool one_pointer one_slice allOne_list putRow_new ne_size1 ne_size2 ne_size3 ne_size4
attribute [local simp ↓] heap_drew heap_drewN heap_alloc heap_past heap_setCell heap_putRow
attribute [local simp] rowCell_some rowFrozen_some rowHas_some rowIn_some rowPart_full rowPart_lit rowPut_full rowPut_lit rowSet_some size_putRow vs_size fit_all putRow_new ne_size1 ne_size2 ne_size3 ne_size4

/-! ### The device -/
/-- The device at g has n lines, whose numbers are xs, in block b; v of them forget. -/
def Dev (w : World) (g b n v : Nat) (xs : List Int) : Prop :=
  (∃ r wr : Int, w.heap[g]? = some (.cells #[.slice (some ⟨b, 0, none⟩) n n, .int .i64 v, .int .u64 r, .int .u64 wr] 161 (0, 0))) ∧
  w.heap[b]? = some (.cells (bk xs []) 36 (0, 0)) ∧ xs.length = n * 8 ∧ 2 ≤ n ∧ n ≤ 64 ∧ 1 ≤ v ∧ v < n ∧ g ≠ b
theorem Dev.keep {w w' : World} {g b n v : Nat} {xs : List Int} {l : List Nat} (h : Dev w g b n v xs) (hc : Chg l w w') (hg : g ∉ l) (hb : b ∉ l) : Dev w' g b n v xs := by
  obtain ⟨⟨r, wr, h1⟩, h2, h3⟩ := h
  exact ⟨⟨r, wr, hc.keep h1 hg⟩, hc.keep h2 hb, h3⟩

theorem within_yes (n a b : Int) (w : World) (h0 : a ≤ n) (h1 : n ≤ b) : Calls Tryz.prog 97 #[.int .i64 n, .int .i64 a, .int .i64 b] w fun e w' => e = .returned (.bool true) ∧ w = w' := by
  go_enter Tryz.func97, Tryz.ntmps97
  go_wp2
  go_ret
  exact ⟨rfl, rfl⟩
theorem place_ok (g b n v : Nat) (i : Int) (xs : List Int) (w : World) (hd : Dev w g b n v xs) (h0 : 0 ≤ i) (h1 : i < n) :
    Calls Tryz.prog 192 #[.pointer (some ⟨g, 0, none⟩), .int .i64 i] w fun e w' => e = .returned (.int .i64 0) ∧ w = w' := by
  obtain ⟨⟨r, wr, hg⟩, _, _, hn2, hn, _⟩ := hd
  go_enter Tryz.func192, Tryz.ntmps192
  go_wp2_with (go_at_call 97; refine (within_yes _ _ _ _ (by omega) (by omega)).mono ?_; rintro e w' ⟨rfl, rfl⟩)
  go_ret
  exact ⟨rfl, rfl⟩
theorem add_any (g o : Nat) (x : Int) (w : World) (c : Array Value) (T : TypeId) (hg : w.heap[g]? = some (.cells c T (0, 0))) (hc : c[o]? = some (.int .u64 x)) :
    Calls Tryz.prog 86 #[.pointer (some ⟨g, o, none⟩), .int .u64 1] w fun e w' => e = .returned (.int .u64 (IntKind.u64.wrap (x + 1))) ∧ w' = w.setCell ⟨g, o, none⟩ (.int .u64 (IntKind.u64.wrap (x + 1))) := by
  have hadd := run_call_add (P := Tryz.prog) Tryz.func137 (by kernel_rfl) (by kernel_rfl) (by kernel_rfl) .u64 (by kernel_rfl) (a := ⟨g, o, none⟩) (x := x) (y := 1) (s := IntKind.u64.wrap (x + 1)) (w := w) (by rw [cell_row, hg, rowCell_some, hc]) (by rw [frozen_row, hg, rowFrozen_some]) (by simp [Op.intArith])
  clear hg hc
  go_enter Tryz.func86, Tryz.ntmps86
  go_wp2
  go_ret
  exact ⟨rfl, rfl⟩


/-- Two results, the first one a line in memory. -/
theorem results_line2 {fn : Func} {p t : Tmp} (h : fn.results = #[.cell p 36, .tmp t]) (tmps : Array Value) (w : World) (b : Nat) (l : List Int) (fr : Nat × Nat)
    (hp : tmps.getD p undef = .pointer (some ⟨b, 0, none⟩)) (hb : w.heap[b]? = some (.cells (vs l) 36 fr)) (hl : l.length = 8) (x : Value) (hx : tmps.getD t undef = x) :
    (results fn tmps).run Tryz.prog w = .ok (.tuple #[.agg (vs l), x]) w := by
  subst hx
  have hp' : tmps[p]?.getD undef = .pointer (some ⟨b, 0, none⟩) := by simpa using hp
  have := run_loadVar_row (P := Tryz.prog) w b 36 36 (vs l) fr _ hb Tryz.underlying36 rfl (by rw [vs_size, hl]; kernel_rfl)
  simp [results, h, hp', asAddr, this]
/-- A line of words 0. -/
def zero8 : List Int := [0, 0, 0, 0, 0, 0, 0, 0]

theorem zero8_length : zero8.length = 8 := rfl
attribute [local go_sem] zero8_length
attribute [local simp] zero8_length

theorem read_ok (g b n v : Nat) (i : Nat) (xs : List Int) (w : World) (hd : Dev w g b n v xs) (h1 : i < n) :
    Calls Tryz.prog 210 #[.pointer (some ⟨g, 0, none⟩), .int .i64 i] w fun e w' => e = .returned (.tuple #[.agg (vs (ln xs i)), .int .i64 0]) ∧ Chg [g] w w' ∧ Dev w' g b n v xs := by
  have hd' := Lib.hid (hd.keep ((Chg.refl [] w).alloc (.cells (vs zero8) 36)) (by simp) (by simp))
  obtain ⟨⟨r, wr, hg⟩, hb, hx, hn2, hn, hv, hvn, hgb⟩ := hd
  have hf : Fit (i * 8) 8 xs.length := by rw [hx]; unfold Fit; omega
  have H := Lib.hid hx
  have hbg : b ≠ g := fun e => hgb e.symm
  have hgl := old hg
  have hbl := old hb
  have hl := ln_length xs i hf
  have hi : (i : Int) < (n : Int) := by omega
  have hi0 : (0 : Int) ≤ (i : Int) := by omega
  have h64 : (n : Int) ≤ 64 := by omega
  have rp := rowPart_bk hf [] 36 (0, 0)
  have ri := rowIn_bk hf [] 36 (0, 0)
  clear hx hf
  go_enter Tryz.func210, Tryz.ntmps210
  go_wp2_with (first
    | (go_at_call 192; refine (place_ok g b n v _ xs _ hd'.out (by omega) (by omega)).mono ?_; rintro e w' ⟨rfl, rfl⟩)
    | (go_at_call 86; refine (add_any g 2 r _ #[.slice (some ⟨b, 0, none⟩) n n, .int .i64 v, .int .u64 r, .int .u64 wr] 161 (by rw [heap_alloc, hg]; rfl) rfl).mono ?_; rintro e w' ⟨rfl, rfl⟩))
  refine bodyPost_ret (v := .tuple #[.agg (vs (ln xs i)), .int .i64 0]) ?_ (by rfl) ?_
  · exact results_line2 (by rfl) _ _ w.heap.size (ln xs i) (0, 0) (by rfl) (by simp [*]) hl _ (by rfl)
  refine ⟨rfl, ?_, ?_⟩
  · exact (((Chg.refl _ _).alloc _).setCell _ _ _ (.inl (by simp))).putRow _ _ _ (.inr (by simp))
  · exact ⟨⟨IntKind.u64.wrap (r + 1), wr, by simp [*]⟩, by simp [*], H.out, hn2, hn, hv, hvn, hgb⟩

theorem write_ok (g b n v : Nat) (i : Nat) (l xs : List Int) (w : World) (hd : Dev w g b n v xs) (h1 : i < n) (hl : l.length = 8) :
    Calls Tryz.prog 125 #[.pointer (some ⟨g, 0, none⟩), .int .i64 i, .agg (vs l)] w fun e w' => e = .returned (.int .i64 0) ∧ Chg [g, b] w w' ∧ Dev w' g b n v (lnPut xs i l) := by
  have hd' := Lib.hid (hd.keep ((Chg.refl [] w).alloc (.cells (vs l) 36)) (by simp) (by simp))
  obtain ⟨⟨r, wr, hg⟩, hb, hx, hn2, hn, hv, hvn, hgb⟩ := hd
  have hf : Fit (i * 8) 8 xs.length := by rw [hx]; unfold Fit; omega
  have H := Lib.hid hx
  have HL := Lib.hid (lnPut_length xs i l hf hl)
  have hbg : b ≠ g := fun e => hgb e.symm
  have hgl := old hg
  have hbl := old hb
  have hi : (i : Int) < (n : Int) := by omega
  have hi0 : (0 : Int) ≤ (i : Int) := by omega
  have h64 : (n : Int) ≤ 64 := by omega
  have rp := rowPut_bk (xs := xs) (l := l) (i := i) (by rw [hl]; exact hf) [] 36 (0, 0)
  have ri := rowHas_bk (xs := xs) (i := i) hf [] 36
  clear hx hf
  go_enter Tryz.func125, Tryz.ntmps125
  go_wp2_with (first
    | (go_at_call 192; refine (place_ok g b n v _ xs _ hd'.out (by omega) (by omega)).mono ?_; rintro e w' ⟨rfl, rfl⟩)
    | (go_at_call 86; refine (add_any g 3 wr _ #[.slice (some ⟨b, 0, none⟩) n n, .int .i64 v, .int .u64 r, .int .u64 wr] 161 (by rw [heap_alloc, hg]; rfl) rfl).mono ?_; rintro e w' ⟨rfl, rfl⟩))
  go_region
  all_goals
    go_wp2
    go_ret
    refine ⟨rfl, ?_, ?_⟩
    · exact ((((Chg.refl _ _).alloc _).setCell _ _ _ (.inl (by simp))).drew).putRow _ _ _ (.inl (by simp))
    · exact ⟨⟨r, IntKind.u64.wrap (wr + 1), by simp [*]⟩, by simp [*], HL.out.trans H.out, hn2, hn, hv, hvn, hgb⟩

/-! ### Images -/
theorem line_info : (Tryz.prog.info? 36).map (fun i => (i.zero, i.size, i.bytes)) = some (some (.agg (vs zero8)), 8, 64) := by kernel_rfl
theorem lines_nil (w : World) (a : Option Addr) (n c n' c' : Nat) : (binOp .eql 24 (.slice a n c) (.slice none n' c')).run Tryz.prog w = .ok (.bool a.isNone) w := Lib.run_eql_slice_nil w _ _ a n c n' c' Tryz.underlying24
attribute [local go_sem] lines_nil
theorem clone_ok (A : Option Addr) (n c : Nat) (xs : List Value) (w : World) (h : Sl w 8 A n xs) (h0 : 0 < n) (hn : n * 64 ≤ 140737488355328) :
    Calls Tryz.prog 157 #[.slice A n c] w fun e w' => ∃ g cap r, e = .returned (.slice (some ⟨g, 0, none⟩) n cap) ∧ w'.heap[g]? = some (.cells (xs ++ r).toArray 36 (0, 0)) ∧ w.heap.size ≤ g ∧ n ≤ cap ∧ Chg [] w w' := by
  obtain ⟨i0, hi0, hz0, hz1, hz2⟩ := info_parts line_info
  obtain ⟨b, o, rfl⟩ := h.addr h0
  have hcl := run_clone (P := Tryz.prog) (t := 24) (ty := 24) Tryz.underlying24 hi0 hz0 (w.alloc (.cells #[] 36)) ⟨w.heap.size, 0, none⟩ (some ⟨b, o, none⟩) n c xs (by rw [hz1]; exact h.chg ((Chg.refl [] w).alloc _) (by simp)) h0 (by simp only [maxLen]; omega) (by rw [hz2]; exact hn)
  have hge := grownCap_ge (w.alloc (.cells #[] 36)) n 0 36
  generalize grownCap (w.alloc (.cells #[] 36)) n 0 36 = cap at hcl hge
  generalize (Builtin.zeroCells (Value.agg (vs zero8)).cells (cap - n)).toList = r at hcl
  clear h h0 hn hz0 hz1 hz2 hi0
  go_enter Tryz.func157, Tryz.ntmps157
  go_wp2
  go_ret
  exact ⟨w.heap.size + 1, cap, r, rfl, by simp, by omega, hge, (((Chg.refl _ _).alloc _).drew).alloc _⟩

theorem Dev.sl {w : World} {g b n v : Nat} {xs : List Int} (h : Dev w g b n v xs) : Sl w 8 (some ⟨b, 0, none⟩) n (xs.map (Value.int .u64)) := Sl.of_bk h.2.1 h.2.2.1
/-- A slice of lines of its own, at the head of a block. -/
def OwnLines (w0 : World) (n : Nat) (xs : List Int) (e : Ending) (w' : World) : Prop :=
  ∃ g cap r, e = .returned (.slice (some ⟨g, 0, none⟩) n cap) ∧ w'.heap[g]? = some (.cells (bk xs r) 36 (0, 0)) ∧ w0.heap.size ≤ g ∧ n ≤ cap ∧ Chg [] w0 w'
theorem image_ok (g b n v : Nat) (xs : List Int) (w : World) (hd : Dev w g b n v xs) : Calls Tryz.prog 98 #[.pointer (some ⟨g, 0, none⟩)] w (OwnLines w n xs) := by
  have hs := Lib.hid hd.sl
  obtain ⟨⟨r, wr, hg⟩, hb, hx, hn2, hn, hv, hvn, hgb⟩ := hd
  clear hb hx
  go_enter Tryz.func98, Tryz.ntmps98
  go_wp2_with (go_at_call 157; refine (clone_ok _ n _ (xs.map (Value.int .u64)) _ hs.out (by omega) (by omega)).mono ?_; rintro e w' ⟨g', cap, r', rfl, h1, h2, h3, h4⟩)
  go_ret
  exact ⟨g', cap, r', rfl, h1, h2, h3, h4⟩

end Go.Proofs.YtadeoflkppiflaaGreatDoor
end
section
namespace Go.Proofs.YtadeoflkppiflaaGreatDoor
open Go.RowKit
set_option linter.unusedVariables false
attribute [local go_sem ↓] append_appS copy_copS clear_clrS make_mkS cell_row frozen_row loadLine storeLine heap_drew heap_drewN heap_alloc heap_past heap_setCell heap_putRow
attribute [local go_sem] rowCell_some rowFrozen_some rowHas_some rowIn_some rowPart_full rowPart_lit rowPut_full rowPut_lit rowSet_some size_putRow vs_size vs_one wideLine run_loadS run_storeS run_appS run_copS run_clrS run_mkS loadW_at storeW_at fit_all one_int one_bool one_pointer one_slice allOne_list putRow_new ne_size1 ne_size2 ne_size3 ne_size4 zero8_length lines_nil
attribute [local simp ↓] heap_drew heap_drewN heap_alloc heap_past heap_setCell heap_putRow
attribute [local simp] rowCell_some rowFrozen_some rowHas_some rowIn_some rowPart_full rowPart_lit rowPut_full rowPut_lit rowSet_some size_putRow vs_size fit_all putRow_new ne_size1 ne_size2 ne_size3 ne_size4 zero8_length

/-- Lines made. -/
theorem run_make_lines (w : World) (n : Nat) (hn : n ≤ 64) : mkR Tryz.prog 24 (.int .i64 n) (.int .i64 n) w = .ok (.slice (some ⟨w.heap.size, 0, none⟩) n n) (w.alloc (.cells (bk (List.replicate (n * 8) 0) []) 36)) := by
  obtain ⟨i0, hi0, hz0, hz1, hz2⟩ := info_parts line_info
  have := run_make (P := Tryz.prog) w 24 36 i0 _ Tryz.underlying24 hi0 hz0 .i64 .i64 n n (by omega) (by omega) (by rw [hz2]; omega) (by omega)
  simp only [Int.toNat_natCast, hz1] at this
  rw [← made_made]
  exact this

/-- A device that was made. -/
def MadeDev (w0 : World) (n v : Nat) (e : Ending) (w' : World) : Prop :=
  e = .returned (.tuple #[.pointer (some ⟨w0.heap.size + 1, 0, none⟩), .int .i64 0]) ∧ Chg [] w0 w' ∧ Dev w' (w0.heap.size + 1) w0.heap.size n v (List.replicate (n * 8) 0) ∧ w'.heap.size = w0.heap.size + 2
theorem new_ok (n v : Nat) (w : World) (h1 : 2 ≤ n) (h2 : n ≤ 64) (h3 : 1 ≤ v) (h4 : v < n) : Calls Tryz.prog 39 #[.int .i64 n, .int .i64 v] w (MadeDev w n v) := by
  have hmk := run_make_lines w n h2
  have g1 : (2 : Int) ≤ (n : Int) := by omega
  have g2 : (n : Int) ≤ 64 := by omega
  go_enter Tryz.func39, Tryz.ntmps39
  go_wp2_with (go_at_call 97; refine (within_yes _ _ _ _ (by omega) (by omega)).mono ?_; rintro e w' ⟨rfl, rfl⟩)
  go_ret2
  refine ⟨rfl, ((Chg.refl _ _).alloc _).alloc _, ⟨⟨0, 0, ?_⟩, ?_, by simp, h1, h2, h3, h4, by omega⟩, by simp⟩
  · simp
  · simp

/-! ### The document's device -/
def RDev (w : World) (g b n v : Nat) (xs : List Int) : Prop :=
  (∃ cap : Nat, w.heap[g]? = some (.cells #[.slice (some ⟨b, 0, none⟩) n cap, .int .i64 v] 169 (0, 0))) ∧
  (∃ r : List Value, w.heap[b]? = some (.cells (bk xs r) 36 (0, 0))) ∧ xs.length = n * 8 ∧ 2 ≤ n ∧ n ≤ 64 ∧ 1 ≤ v ∧ v < n ∧ g ≠ b
theorem RDev.keep {w w' : World} {g b n v : Nat} {xs : List Int} {l : List Nat} (h : RDev w g b n v xs) (hc : Chg l w w') (hg : g ∉ l) (hb : b ∉ l) : RDev w' g b n v xs := by
  obtain ⟨⟨c, h1⟩, ⟨r, h2⟩, h3⟩ := h
  exact ⟨⟨c, hc.keep h1 hg⟩, ⟨r, hc.keep h2 hb⟩, h3⟩
theorem RDev.sl {w : World} {g b n v : Nat} {xs : List Int} (h : RDev w g b n v xs) : Sl w 8 (some ⟨b, 0, none⟩) n (xs.map (Value.int .u64)) := by
  obtain ⟨_, ⟨r, h2⟩, h3, _⟩ := h
  exact Sl.of_bk h2 h3
end Go.Proofs.YtadeoflkppiflaaGreatDoor
end
section
namespace Go.Proofs.YtadeoflkppiflaaGreatDoor
open Go.RowKit
set_option linter.unusedVariables false
attribute [local go_sem ↓] append_appS copy_copS clear_clrS make_mkS cell_row frozen_row loadLine storeLine heap_drew heap_drewN heap_alloc heap_past heap_setCell heap_putRow
attribute [local go_sem] rowCell_some rowFrozen_some rowHas_some rowIn_some rowPart_full rowPart_lit rowPut_full rowPut_lit rowSet_some size_putRow vs_size vs_one wideLine run_loadS run_storeS run_appS run_copS run_clrS run_mkS loadW_at storeW_at fit_all one_int one_bool one_pointer one_slice allOne_list putRow_new ne_size1 ne_size2 ne_size3 ne_size4 zero8_length lines_nil
attribute [local simp ↓] heap_drew heap_drewN heap_alloc heap_past heap_setCell heap_putRow
attribute [local simp] rowCell_some rowFrozen_some rowHas_some rowIn_some rowPart_full rowPart_lit rowPut_full rowPut_lit rowSet_some size_putRow vs_size fit_all putRow_new ne_size1 ne_size2 ne_size3 ne_size4 zero8_length


theorem line_eq (a b : List Int) (ha : a.length = 8) (hb : b.length = 8) (w : World) : (Op.equalIn 10000 36 (.agg (vs a)) (.agg (vs b))).run Tryz.prog w = .ok (a == b) w := by
  obtain ⟨i0, hi0⟩ : ∃ i, Tryz.prog.info? 34 = some i := Option.isSome_iff_exists.1 (by kernel_rfl)
  exact eq_ints_array w (k := .u64) Tryz.underlying36 hi0 Tryz.underlying34 (by kernel_rfl) a b ha hb
attribute [local go_sem] line_eq lit8
attribute [local go_sem ↓] vs_get

end Go.Proofs.YtadeoflkppiflaaGreatDoor
end
section
namespace Go.Proofs.YtadeoflkppiflaaGreatDoor
open Go.RowKit
set_option linter.unusedVariables false
set_option maxHeartbeats 1000000
theorem wideMsg : Wide Tryz.prog 38 12 := ⟨⟨_, Tryz.underlying38, by rfl⟩, by kernel_rfl⟩
theorem loadMsg (x : Value) : Instr.loadAt 38 x = loadS 38 12 x := rfl
theorem storeMsg (x y : Value) : Instr.storeAt 38 x y = storeS 38 12 x y := rfl
theorem wideHas : Wide Tryz.prog 263 3 := ⟨⟨_, Tryz.underlying263, by rfl⟩, by kernel_rfl⟩
theorem loadHas (x : Value) : Instr.loadAt 263 x = loadS 263 3 x := rfl
theorem storeHas (x y : Value) : Instr.storeAt 263 x y = storeS 263 3 x y := rfl
attribute [local go_sem ↓] append_appS copy_copS clear_clrS make_mkS slice_slS cell_row frozen_row loadLine storeLine loadMsg storeMsg loadHas storeHas heap_drew heap_drewN heap_alloc heap_past heap_setCell heap_putRow vs_get msc_kd msc_li msc_di msc_ke
attribute [local go_sem] rowCell_some rowFrozen_some rowHas_some rowIn_some rowPart_full rowPart_lit rowPut_full rowPut_lit rowSet_some size_putRow vs_size vs_one wideLine wideMsg wideHas run_loadS run_storeS run_appS run_copS run_clrS run_mkS run_slS loadW_at storeW_at fit_all fit_le one_int one_bool one_pointer one_slice allOne_list putRow_new ne_size1 ne_size2 ne_size3 ne_size4 zero8_length line_eq lit8 msc_size msc_one msc_part msc_in fold_msc
attribute [local simp ↓] heap_drew heap_drewN heap_alloc heap_past heap_setCell heap_putRow
attribute [local simp] rowCell_some rowFrozen_some rowHas_some rowIn_some rowPart_full rowPart_lit rowPut_full rowPut_lit rowSet_some size_putRow vs_size fit_all putRow_new ne_size1 ne_size2 ne_size3 ne_size4 zero8_length msc_size

theorem mwithin_any (n a b : Int) (w : World) : Calls Tryz.prog 204 #[.int .i64 n, .int .i64 a, .int .i64 b] w fun e w' => e = .returned (.bool (decide (a ≤ n) && decide (n ≤ b))) ∧ w = w' := by
  by_cases h : a ≤ n
  · have t1 : decide (a ≤ n) = true := by simpa using h
    rw [t1]
    clear h
    go_enter Tryz.func204, Tryz.ntmps204
    go_wp2
    go_ret
    exact ⟨by simp, rfl⟩
  · have t1 : decide (a ≤ n) = false := by simpa using h
    rw [t1]
    clear h
    go_enter Tryz.func204, Tryz.ntmps204
    go_wp2
    go_ret
    exact ⟨by simp, rfl⟩
theorem asks_any (k : Int) (w : World) : Calls Tryz.prog 145 #[.int .i64 k] w fun e w' => e = .returned (.bool (asksB k)) ∧ w = w' := by
  go_enter Tryz.func145, Tryz.ntmps145
  go_wp2_with (go_at_call 204; refine (mwithin_any _ _ _ _).mono ?_; rintro e w' ⟨rfl, rfl⟩)
  go_ret
  exact ⟨rfl, rfl⟩
theorem answers_any (k : Int) (w : World) : Calls Tryz.prog 153 #[.int .i64 k] w fun e w' => e = .returned (.bool (answersB k)) ∧ w = w' := by
  go_enter Tryz.func153, Tryz.ntmps153
  go_wp2_with (go_at_call 204; refine (mwithin_any _ _ _ _).mono ?_; rintro e w' ⟨rfl, rfl⟩)
  go_ret
  exact ⟨rfl, rfl⟩
theorem tells_any (k : Int) (w : World) : Calls Tryz.prog 149 #[.int .i64 k] w fun e w' => e = .returned (.bool (tellsB k)) ∧ w = w' := by
  go_enter Tryz.func149, Tryz.ntmps149
  go_wp2_with (go_at_call 204; refine (mwithin_any _ _ _ _).mono ?_; rintro e w' ⟨rfl, rfl⟩)
  go_ret
  exact ⟨rfl, rfl⟩
/-! ### Which messages have a form -/
theorem mgood_kind (m : Ms) (w : World) (h : kindB m.kd = false) : Calls Tryz.prog 144 #[.agg (msc m)] w fun e w' => e = .returned (.bool (mg m)) ∧ Chg [] w w' := by
  rw [show mg m = false by simp [mg, h]]
  go_enter Tryz.func144, Tryz.ntmps144
  try dsimp only [List.append]
  go_wp2_with (go_at_call 204; refine (mwithin_any _ _ _ _).mono ?_; rintro e w' ⟨rfl, rfl⟩; rw [show (decide (1 ≤ m.kd) && decide (m.kd ≤ 14)) = false from h])
  go_ret
  exact ⟨rfl, (Chg.refl _ _).alloc _⟩
theorem mgood_line (m : Ms) (w : World) (h1 : kindB m.kd = true) (h : lineB m.li = false) : Calls Tryz.prog 144 #[.agg (msc m)] w fun e w' => e = .returned (.bool (mg m)) ∧ Chg [] w w' := by
  rw [show mg m = false by simp [mg, h]]
  go_enter Tryz.func144, Tryz.ntmps144
  try dsimp only [List.append]
  go_wp2_with (go_at_call 204; refine (mwithin_any _ _ _ _).mono ?_; rintro e w' ⟨rfl, rfl⟩; (try rw [show (decide (1 ≤ m.kd) && decide (m.kd ≤ 14)) = true from h1]); (try rw [show (decide (0 ≤ m.li) && decide (m.li ≤ 63)) = false from h]))
  go_ret
  exact ⟨rfl, (Chg.refl _ _).alloc _⟩
end Go.Proofs.YtadeoflkppiflaaGreatDoor
end
section
namespace Go.Proofs.YtadeoflkppiflaaGreatDoor
open Go.RowKit
set_option linter.unusedVariables false
set_option maxHeartbeats 1000000
attribute [local go_sem ↓] append_appS copy_copS clear_clrS make_mkS slice_slS cell_row frozen_row loadLine storeLine loadMsg storeMsg loadHas storeHas heap_drew heap_drewN heap_alloc heap_past heap_setCell heap_putRow vs_get msc_kd msc_li msc_di msc_ke
attribute [local go_sem] rowCell_some rowFrozen_some rowHas_some rowIn_some rowPart_full rowPart_lit rowPut_full rowPut_lit rowSet_some size_putRow vs_size vs_one wideLine wideMsg wideHas run_loadS run_storeS run_appS run_copS run_clrS run_mkS run_slS loadW_at storeW_at fit_all fit_le one_int one_bool one_pointer one_slice allOne_list putRow_new ne_size1 ne_size2 ne_size3 ne_size4 zero8_length line_eq lit8 msc_size msc_one msc_part msc_in fold_msc
attribute [local simp ↓] heap_drew heap_drewN heap_alloc heap_past heap_setCell heap_putRow
attribute [local simp] rowCell_some rowFrozen_some rowHas_some rowIn_some rowPart_full rowPart_lit rowPut_full rowPut_lit rowSet_some size_putRow vs_size fit_all putRow_new ne_size1 ne_size2 ne_size3 ne_size4 zero8_length msc_size

theorem mgood_in (m : Ms) (k : Nat) (w : World) (hk : m.kd = k) (h1 : 1 ≤ k) (h2 : k ≤ 14) (hl : lineB m.li = true) (ht : Tab w) : Calls Tryz.prog 144 #[.agg (msc m)] w fun e w' => e = .returned (.bool (mg m)) ∧ Chg [] w w' := by
  have oh := ht.old
  obtain ⟨t, f, ht⟩ := ht
  obtain ⟨ri, rp⟩ := tab_row k (by omega) t f
  obtain ⟨kd, li, di, ke, l, h8⟩ := m
  simp only at hk hl
  subst hk
  have hkd : kindB (k : Int) = true := by simp [kindB]; omega
  have hmg : mg ⟨k, li, di, ke, l, h8⟩ = ((!di || mayD k) && (!ke || mayK k) && (mayW k || di || l == [0, 0, 0, 0, 0, 0, 0, 0])) := by simp [mg, hkd, hl]
  have he := fun W => line_eq l [0, 0, 0, 0, 0, 0, 0, 0] h8 rfl W
  have g0 : (0 : Int) ≤ (k : Int) := by omega
  have g1 : (k : Int) < 15 := by omega
  have g2 : k < 15 := by omega
  rw [hmg]
  have HK := Lib.hid hkd
  have HL := Lib.hid hl
  clear hmg h1 h2 hkd hl
  generalize mayD (k : Int) = d at rp ⊢
  generalize mayK (k : Int) = e at rp ⊢
  generalize mayW (k : Int) = s at rp ⊢
  have hc : (di = true ∧ d = false) ∨ ((di = false ∨ (di = true ∧ d = true)) ∧ ((ke = true ∧ e = false) ∨ ((ke = false ∨ (ke = true ∧ e = true)) ∧ (s = true ∨ s = false)))) := by
    cases di <;> cases d <;> cases ke <;> cases e <;> cases s <;> simp
  rcases hc with ⟨rfl, rfl⟩ | ⟨rfl | ⟨rfl, rfl⟩, ⟨rfl, rfl⟩ | ⟨rfl | ⟨rfl, rfl⟩, rfl | rfl⟩⟩
  all_goals
    go_enter Tryz.func144, Tryz.ntmps144
    try dsimp only [List.append]
    go_wp2_with (go_at_call 204; refine (mwithin_any _ _ _ _).mono ?_; rintro e w' ⟨rfl, rfl⟩; (try rw [show (decide ((1 : Int) ≤ (k : Int)) && decide ((k : Int) ≤ 14)) = true from HK.out]); (try rw [show (decide (0 ≤ li) && decide (li ≤ 63)) = true from HL.out]))
    go_ret
    exact ⟨by simp, ((((Chg.refl _ _).alloc _).alloc _)).putRow _ _ _ (.inr (by simp))⟩
theorem mgood_any (m : Ms) (w : World) (ht : Tab w) : Calls Tryz.prog 144 #[.agg (msc m)] w fun e w' => e = .returned (.bool (mg m)) ∧ Chg [] w w' := by
  cases h1 : kindB m.kd
  · exact mgood_kind m w h1
  cases h2 : lineB m.li
  · exact mgood_line m w h1 h2
  have h3 : 1 ≤ m.kd ∧ m.kd ≤ 14 := by simpa [kindB] using h1
  exact mgood_in m m.kd.toNat w (by omega) (by omega) (by omega) h2 ht
end Go.Proofs.YtadeoflkppiflaaGreatDoor
end
section
namespace Go.Proofs.YtadeoflkppiflaaGreatDoor
open Go.RowKit
set_option linter.unusedVariables false
set_option maxHeartbeats 1000000
set_option maxRecDepth 100000
attribute [local go_sem ↓] append_appS copy_copS clear_clrS make_mkS slice_slS cell_row frozen_row loadLine storeLine loadMsg storeMsg loadHas storeHas heap_drew heap_drewN heap_alloc heap_past heap_setCell heap_putRow vs_get msc_kd msc_li msc_di msc_ke
attribute [local go_sem] rowCell_some rowFrozen_some rowHas_some rowIn_some rowPart_full rowPart_lit rowPut_full rowPut_lit rowSet_some size_putRow vs_size vs_one wideLine wideMsg wideHas run_loadS run_storeS run_appS run_copS run_clrS run_mkS run_slS loadW_at storeW_at fit_all fit_le one_int one_bool one_pointer one_slice allOne_list putRow_new ne_size1 ne_size2 ne_size3 ne_size4 zero8_length line_eq lit8 msc_size msc_one msc_part msc_in fold_msc
attribute [local simp ↓] heap_drew heap_drewN heap_alloc heap_past heap_setCell heap_putRow
attribute [local simp] rowCell_some rowFrozen_some rowHas_some rowIn_some rowPart_full rowPart_lit rowPut_full rowPut_lit rowSet_some size_putRow vs_size fit_all putRow_new ne_size1 ne_size2 ne_size3 ne_size4 zero8_length msc_size

theorem msg_info : (Tryz.prog.info? 38).map (fun i => (i.zero, i.size, i.bytes)) = some (some msV, 12, 88) := by kernel_rfl
theorem eltMsg : Elt Tryz.prog 61 38 12 88 msV Ms.enc where
  slice := Tryz.underlying61
  info := msg_info
  zero := msV_size
  zone := msV_one
  pos := by omega
  len := Ms.len
  one := Ms.one
theorem msg_slice (w : World) (m : Ms) : Sl ((w.alloc (.cells (msc m) 38)).drew) 12 (some ⟨w.heap.size, 0, none⟩) 1 (cat Ms.enc [m]) :=
  ⟨by rw [cat_length Ms.len]; rfl, .inr ⟨w.heap.size, 0, msc m, 38, (0, 0), rfl, by simp, by rw [cat_one]; simp [msc, Ms.len, List.take_of_length_le]⟩⟩
/-- A queue at q, all new to the world W, its messages in block be; the table stands. -/
def Qu (W w : World) (q be : Nat) (xs : List Ms) : Prop :=
  Chg [] W w ∧ Tab W ∧ W.heap.size ≤ q ∧ W.heap.size ≤ be ∧ xs.length ≤ 1000 ∧ ∃ A cap, w.heap[q]? = some (.cells #[.slice A xs.length cap] 135 (0, 0)) ∧ Vof 12 38 Ms.enc w q be A cap xs
theorem Qu.keep {W w w' : World} {q be : Nat} {xs : List Ms} {l : List Nat} (h : Qu W w q be xs) (hc : Chg l w w') (hl : ∀ x ∈ l, W.heap.size ≤ x) (hq : q ∉ l) (hb : be ∉ l) : Qu W w' q be xs := by
  obtain ⟨h1, h2, h3, h4, h5, A, cap, h6, h7⟩ := h
  exact ⟨h1.trans' hc (fun x hx => .inr (hl x hx)), h2, h3, h4, h5, A, cap, hc.keep h6 hq, h7.keep hc hb⟩
theorem Qu.stay {W w w' : World} {q be : Nat} {xs : List Ms} (h : Qu W w q be xs) (hc : Chg [] w w') : Qu W w' q be xs := h.keep hc (by simp) (by simp) (by simp)
theorem Qu.oldq {W w : World} {q be : Nat} {xs : List Ms} (h : Qu W w q be xs) : Old w q := by
  obtain ⟨_, _, _, _, _, A, cap, h6, _⟩ := h; exact old h6
theorem Qu.olde {W w : World} {q be : Nat} {xs : List Ms} (h : Qu W w q be xs) : Old w be := by
  obtain ⟨_, _, _, _, _, A, cap, h6, h7⟩ := h; exact h7.old (old h6)

/-! ### Len, Head -/
/-- Two results, the first one a message in memory. -/
theorem results_msg2 {fn : Func} {p t : Tmp} (h : fn.results = #[.cell p 38, .tmp t]) (tmps : Array Value) (w : World) (b : Nat) (m : Ms) (fr : Nat × Nat)
    (hp : tmps.getD p undef = .pointer (some ⟨b, 0, none⟩)) (hb : w.heap[b]? = some (.cells (msc m) 38 fr)) (x : Value) (hx : tmps.getD t undef = x) :
    (results fn tmps).run Tryz.prog w = .ok (.tuple #[.agg (msc m), x]) w := by
  subst hx
  have hp' : tmps[p]?.getD undef = .pointer (some ⟨b, 0, none⟩) := by simpa using hp
  have := run_loadVar_row (P := Tryz.prog) w b 38 38 (msc m) fr _ hb Tryz.underlying38 rfl (by rw [msc_size]; kernel_rfl)
  simp [results, h, hp', asAddr, this]
theorem mlitZ : (#[.int .i64 0, .int .i64 0, .bool false, .bool false, .int .u64 0, .int .u64 0, .int .u64 0, .int .u64 0, .int .u64 0, .int .u64 0, .int .u64 0, .int .u64 0] : Array Value) = msc msZ := rfl
attribute [local go_sem ↓] mlitZ
attribute [local simp] mlitZ
theorem headM_nil : headM [] = msZ := rfl
theorem headM_cons (x : Ms) (xs : List Ms) : headM (x :: xs) = x := rfl
end Go.Proofs.YtadeoflkppiflaaGreatDoor
end
