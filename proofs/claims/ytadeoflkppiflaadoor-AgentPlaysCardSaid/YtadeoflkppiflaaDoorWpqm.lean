/- Lines that will be written over lines: what is read of them, in whatever order they are written. No condition. -/
import Derived.Test.YtadeoflkppiflaaDoorSeq
namespace Go.Proofs.YtadeoflkppiflaaDoor
open Go.RowKit
set_option linter.unusedVariables false

/-- A line that will be written. -/
structure Ent where
  pos : Nat
  l : List Int
  h : l.length = 8
def Ent.enc (e : Ent) : List Value := .int .i64 e.pos :: e.l.map (Value.int .u64)
theorem Ent.len (e : Ent) : (Ent.enc e).length = 9 := by simp [Ent.enc, e.h]
theorem Ent.one (e : Ent) : ∀ v ∈ Ent.enc e, v.oneCell' = true := by
  intro v hv
  simp only [Ent.enc, List.mem_cons, List.mem_map] at hv
  rcases hv with rfl | ⟨x, _, rfl⟩ <;> rfl
/-- No entry's cells. -/
def entZ : Value := .agg (.int .i64 0 :: List.replicate 8 (.int .u64 0)).toArray
theorem entZ_size : entZ.cells.size = 9 := rfl
theorem entZ_one : ∀ v ∈ entZ.cells, v.oneCell' = true := by intro v hv; simp [entZ, Value.cells] at hv; rcases hv with rfl | rfl <;> rfl
/-- Its cells. -/
def entc (e : Ent) : Array Value := (Ent.enc e).toArray
theorem entc_size (e : Ent) : (entc e).size = 9 := by simp [entc, Ent.len]
theorem entc_one (e : Ent) : allOne (entc e) := allOne_list _ (List.all_eq_true.2 (Ent.one e))
theorem entc_pos (e : Ent) : (entc e)[0]? = some (.int .i64 e.pos) := by simp [entc, Ent.enc]
theorem entc_part (e : Ent) (t : TypeId) (f : Nat × Nat) : rowPart (some (.cells (entc e) t f)) 1 8 = vs e.l := by
  rw [rowPart_some]
  have : e.l.length = 8 := e.h
  simp [entc, Ent.enc, vs, List.take_of_length_le, this]
theorem entc_in (e : Ent) (t : TypeId) (f : Nat × Nat) : rowIn (some (.cells (entc e) t f)) 1 8 = true := by
  rw [rowIn_some, entc_size]; exact decide_eq_true (show 1 + 8 ≤ 9 by omega)
theorem entc_made (e : Ent) : (#[.int .i64 (e.pos : Int)] : Array Value) ++ vs e.l = entc e := by simp [entc, Ent.enc, vs]

/-- As the walk spells it. -/
theorem fold_ent (e : Ent) : Array.foldl (fun cs y => cs.setIfInBounds (1 + y.snd) y.fst) #[.int .i64 e.pos, .int .u64 0, .int .u64 0, .int .u64 0, .int .u64 0, .int .u64 0, .int .u64 0, .int .u64 0, .int .u64 0] (vs e.l).zipIdx 0 8 = entc e := by
  rw [fold_put _ _ 1 8 (by rw [vs_size, e.h]) (by simp)]
  have : e.l.length = 8 := e.h
  simp [splice, vs, entc, Ent.enc, this]
theorem fold_entc (C : Array Value) (e : Ent) (h : C.size = 9) : Array.foldl (fun cs y => cs.setIfInBounds y.snd y.fst) C (entc e).zipIdx 0 9 = entc e := fold_all _ _ _ (entc_size e) h
theorem getElem?_splice {α : Type} (xs l : List α) (o j : Nat) (h : o + l.length ≤ xs.length) : (splice xs o l)[j]? = if j < o then xs[j]? else if j < o + l.length then l[j - o]? else xs[j]? := by
  unfold splice
  have e1 : (xs.take o).length = o := by simp; omega
  split
  · rename_i h1
    rw [List.append_assoc, List.getElem?_append_left (by omega), List.getElem?_take_of_lt h1]
  · split
    · rename_i h1 h2
      rw [List.append_assoc, List.getElem?_append_right (by omega), e1, List.getElem?_append_left (by omega)]
    · rename_i h1 h2
      rw [List.getElem?_append_right (by simp; omega), List.getElem?_drop]
      congr 1
      simp; omega
theorem lnPut_comm (xs a b : List Int) (i j : Nat) (hij : i ≠ j) (ha : a.length = 8) (hb : b.length = 8) (hi : Fit (i * 8) 8 xs.length) (hj : Fit (j * 8) 8 xs.length) : lnPut (lnPut xs i a) j b = lnPut (lnPut xs j b) i a := by
  have h1 := hi.out
  have h2 := hj.out
  have l1 := lnPut_length xs i a hi ha
  have l2 := lnPut_length xs j b hj hb
  apply List.ext_getElem?
  intro k
  unfold lnPut at *
  rw [getElem?_splice _ _ _ _ (by rw [l1]; omega), getElem?_splice _ _ _ _ (by omega), getElem?_splice _ _ _ _ (by rw [l2]; omega), getElem?_splice _ _ _ _ (by omega)]
  rw [ha, hb]
  rcases Nat.lt_or_gt_of_ne hij with h | h <;> (repeat' split) <;> first | rfl | omega

/-- Lines with entries laid over them, the eldest first. -/
def over (xs : List Int) (es : List Ent) : List Int := es.foldl (fun xs e => lnPut xs e.pos e.l) xs
theorem over_nil (xs : List Int) : over xs [] = xs := rfl
theorem over_append (xs : List Int) (a b : List Ent) : over xs (a ++ b) = over (over xs a) b := by simp [over]
theorem over_cons (xs : List Int) (e : Ent) (b : List Ent) : over xs (e :: b) = over (lnPut xs e.pos e.l) b := rfl
theorem over_snoc (xs : List Int) (a : List Ent) (e : Ent) : over xs (a ++ [e]) = lnPut (over xs a) e.pos e.l := by rw [over_append]; rfl
/-- Each entry is of one of n lines. -/
def Lie (n : Nat) (es : List Ent) : Prop := ∀ e ∈ es, e.pos < n
theorem Lie.nil (n : Nat) : Lie n [] := fun _ h => by cases h
theorem Lie.snoc {n : Nat} {es : List Ent} (h : Lie n es) {e : Ent} (he : e.pos < n) : Lie n (es ++ [e]) := fun x hx => by
  rcases List.mem_append.1 hx with h1 | h1
  · exact h x h1
  · rw [List.mem_singleton.1 h1]; exact he
theorem Lie.sub {n : Nat} {es es' : List Ent} (h : Lie n es) (hs : ∀ e ∈ es', e ∈ es) : Lie n es' := fun x hx => h x (hs x hx)
theorem Lie.get {n : Nat} {es : List Ent} (h : Lie n es) {k : Nat} {e : Ent} (he : es[k]? = some e) : e.pos < n := h e (List.mem_of_getElem? he)
theorem fit_line {n i : Nat} {xs : List Int} (hx : xs.length = n * 8) (hi : i < n) : Fit (i * 8) 8 xs.length := by rw [hx]; unfold Fit; omega
theorem over_length {n : Nat} : ∀ (es : List Ent) (xs : List Int), xs.length = n * 8 → Lie n es → (over xs es).length = n * 8
  | [], xs, hx, _ => hx
  | e :: es, xs, hx, h => by
    rw [over_cons]
    exact over_length es _ (by rw [lnPut_length _ _ _ (fit_line hx (h e (by simp))) e.h, hx]) (h.sub (by intro x hx; simp [hx]))
theorem ln_over_none {n i : Nat} : ∀ (es : List Ent) (xs : List Int), xs.length = n * 8 → Lie n es → (∀ e ∈ es, e.pos ≠ i) → ln (over xs es) i = ln xs i
  | [], xs, _, _, _ => rfl
  | e :: es, xs, hx, h, hn => by
    have hf := fit_line hx (h e (by simp))
    rw [over_cons, ln_over_none es _ (by rw [lnPut_length _ _ _ hf e.h, hx]) (h.sub (by intro x hx; simp [hx])) (fun x hx => hn x (by simp [hx])), ln_put_other _ _ _ _ hf e.h (hn e (by simp))]
theorem ln_over_last {n : Nat} (es post : List Ent) (e : Ent) (xs : List Int) (hx : xs.length = n * 8) (h : Lie n (es ++ e :: post)) (hp : ∀ x ∈ post, x.pos ≠ e.pos) : ln (over xs (es ++ e :: post)) e.pos = e.l := by
  have h1 : Lie n es := h.sub (by intro x hx; simp [hx])
  have hl := over_length es xs hx h1
  have hf := fit_line hl (h e (by simp))
  rw [over_append, over_cons, ln_over_none post _ (by rw [lnPut_length _ _ _ hf e.h, hl]) (h.sub (by intro x hx; simp [hx])) hp, ln_put_same _ _ _ hf e.h]
theorem over_put {n : Nat} : ∀ (es : List Ent) (xs l : List Int) (i : Nat), xs.length = n * 8 → Lie n es → i < n → l.length = 8 → (∀ x ∈ es, x.pos ≠ i) → over (lnPut xs i l) es = lnPut (over xs es) i l
  | [], xs, l, i, _, _, _, _, _ => rfl
  | e :: es, xs, l, i, hx, h, hi, hl, hn => by
    have hf := fit_line hx (h e (by simp))
    have hfi := fit_line hx hi
    rw [over_cons, over_cons, lnPut_comm xs l e.l i e.pos (fun h2 => hn e (by simp) h2.symm) hl e.h hfi hf]
    exact over_put es _ l i (by rw [lnPut_length _ _ _ hf e.h, hx]) (h.sub (by intro x hx; simp [hx])) hi hl (fun x hx => hn x (by simp [hx]))
theorem cut_at {α : Type} {es : List α} {k : Nat} {e : α} (he : es[k]? = some e) : es = es.take k ++ e :: es.drop (k + 1) := by
  obtain ⟨hk, rfl⟩ := List.getElem?_eq_some_iff.1 he
  rw [← List.drop_eq_getElem_cons hk, List.take_append_drop]
theorem erase_at {α : Type} (es : List α) (k : Nat) : es.eraseIdx k = es.take k ++ es.drop (k + 1) := List.eraseIdx_eq_take_drop_succ es k
/-- The eldest entry of a line is written: what all are laid over is as it was. -/
theorem over_drain {n : Nat} {es : List Ent} {k : Nat} {e : Ent} (xs : List Int) (hx : xs.length = n * 8) (h : Lie n es) (he : es[k]? = some e) (hk : ∀ x ∈ es.take k, x.pos ≠ e.pos) : over (lnPut xs e.pos e.l) (es.eraseIdx k) = over xs es := by
  have hc := cut_at he
  have h1 : Lie n (es.take k) := h.sub (fun x hx => List.mem_of_mem_take hx)
  have e1 : over xs es = over (lnPut (over xs (es.take k)) e.pos e.l) (es.drop (k + 1)) := by
    conv => lhs; rw [hc]
    rw [over_append, over_cons]
  rw [e1, erase_at, over_append, over_put _ _ _ _ hx h1 (h.get he) e.h hk]
/-- The newest words of a line among k entries and those behind. -/
theorem ln_over_at {n : Nat} {es : List Ent} {k : Nat} {e : Ent} (xs : List Int) (hx : xs.length = n * 8) (h : Lie n es) (he : es[k]? = some e) (hk : ∀ x ∈ es.drop (k + 1), x.pos ≠ e.pos) : ln (over xs es) e.pos = e.l := by
  have hc := cut_at he
  rw [hc]
  exact ln_over_last _ _ _ _ hx (by rw [← hc]; exact h) hk
theorem drop_all {α : Type} {p : α → Prop} {es : List α} {k : Nat} {e : α} (he : es[k]? = some e) (h : p e) (hd : ∀ x ∈ es.drop (k + 1), p x) : ∀ x ∈ es.drop k, p x := by
  obtain ⟨hk, rfl⟩ := List.getElem?_eq_some_iff.1 he
  rw [List.drop_eq_getElem_cons hk]
  intro x hx
  rcases List.mem_cons.1 hx with rfl | hx
  · exact h
  · exact hd x hx
theorem take_all {α : Type} {p : α → Prop} {es : List α} {k : Nat} {e : α} (he : es[k]? = some e) (h : p e) (hd : ∀ x ∈ es.take k, p x) : ∀ x ∈ es.take (k + 1), p x := by
  obtain ⟨hk, rfl⟩ := List.getElem?_eq_some_iff.1 he
  rw [List.take_succ_eq_append_getElem hk]
  intro x hx
  rcases List.mem_append.1 hx with hx | hx
  · exact hd x hx
  · rw [List.mem_singleton.1 hx]; exact h
/-! ### Entry k in its block -/
section
variable {es : List Ent} {k : Nat} {e : Ent} (h : es[k]? = some e) (r : List Value) (t : TypeId) (f : Nat × Nat)
include h
theorem ent_row : rowPart (some (.cells (sq Ent.enc es r) t f)) (k * 9) 9 = entc e := by
  have := rowPart_sq Ent.len h r t f 0 9 (by omega)
  rw [Nat.add_zero] at this
  rw [this]
  simp [entc, Ent.len, List.take_of_length_le]
theorem ent_rowIn : rowIn (some (.cells (sq Ent.enc es r) t f)) (k * 9) 9 = true := rowIn_sq Ent.len (List.getElem?_eq_some_iff.1 h).1 r t f 0 9 (by omega)
theorem ent_cell : (sq Ent.enc es r)[k * 9]? = some (.int .i64 e.pos) := by
  have := sq_cell Ent.len h r 0 (by omega)
  rw [Nat.add_zero] at this
  rw [this]; rfl
theorem ent_line : rowPart (some (.cells (sq Ent.enc es r) t f)) (k * 9 + 1) 8 = vs e.l := by
  rw [rowPart_sq Ent.len h r t f 1 8 (by omega)]
  have : e.l.length = 8 := e.h
  simp [Ent.enc, vs, List.take_of_length_le, this]
theorem ent_lineIn : rowIn (some (.cells (sq Ent.enc es r) t f)) (k * 9 + 1) 8 = true := rowIn_sq Ent.len (List.getElem?_eq_some_iff.1 h).1 r t f 1 8 (by omega)
end
/-- The first entry of a line, or none. -/
theorem first_or (i : Int) : ∀ es : List Ent, (∃ k e, es[k]? = some e ∧ (e.pos : Int) = i ∧ ∀ x ∈ es.take k, (x.pos : Int) ≠ i) ∨ (∀ e ∈ es, (e.pos : Int) ≠ i)
  | [] => .inr (by simp)
  | e :: es => by
    by_cases h : (e.pos : Int) = i
    · exact .inl ⟨0, e, rfl, h, by simp⟩
    · rcases first_or i es with ⟨k, x, h1, h2, h3⟩ | h1
      · exact .inl ⟨k + 1, x, by simpa using h1, h2, by simpa [h] using h3⟩
      · exact .inr (by simpa [h] using h1)
/-! ### Integers in a block -/
def is (xs : List Int) : Array Value := (xs.map (Value.int .i64)).toArray
theorem is_size (xs : List Int) : (is xs).size = xs.length := by simp [is]
theorem is_get (xs : List Int) (i : Nat) : (is xs)[i]? = (xs[i]?).map (Value.int .i64) := by simp [is]
theorem is_set (xs : List Int) (i : Nat) (v : Int) : (is xs).setIfInBounds i (.int .i64 v) = is (xs.set i v) := by simp [is, List.map_set]
theorem is_sl {w : World} {b n : Nat} {t : TypeId} {f : Nat × Nat} {xs : List Int} (h : w.heap[b]? = some (.cells (is xs) t f)) (hn : xs.length = n) : Sl w 1 (some ⟨b, 0, none⟩) n (xs.map (Value.int .i64)) :=
  ⟨by simp [hn], .inr ⟨b, 0, _, t, f, rfl, h, by simp [is, List.take_of_length_le, hn]⟩⟩
theorem made_is (n : Nat) : madeCells #[.int .i64 0] n = is (List.replicate n 0) := by
  apply Array.ext
  · simp [madeCells, is]
  · intro k h1 h2
    have hk : k % 1 = 0 := Nat.mod_one k
    simp [madeCells, is, hk]
/-- The lines of the first k entries, then 0. -/
def posFill (es : List Ent) (k : Nat) : List Int := (es.take k).map (fun e => (e.pos : Int)) ++ List.replicate (es.length - k) 0
def poss (es : List Ent) : List Int := es.map (fun e => (e.pos : Int))
theorem poss_length (es : List Ent) : (poss es).length = es.length := by simp [poss]
theorem posFill_zero (es : List Ent) : posFill es 0 = List.replicate es.length 0 := by simp [posFill]
theorem posFill_all (es : List Ent) : posFill es es.length = poss es := by simp [posFill, poss]
theorem posFill_length (es : List Ent) (k : Nat) (h : k ≤ es.length) : (posFill es k).length = es.length := by simp [posFill]; omega
theorem posFill_succ {es : List Ent} {k : Nat} {e : Ent} (h : es[k]? = some e) : (posFill es k).set k e.pos = posFill es (k + 1) := by
  obtain ⟨hk, rfl⟩ := List.getElem?_eq_some_iff.1 h
  unfold posFill
  have e1 : ((es.take k).map (fun e => (e.pos : Int))).length = k := by simp; omega
  rw [List.set_append_right _ _ (by omega), e1, Nat.sub_self, List.take_succ_eq_append_getElem hk, List.map_append]
  obtain ⟨m, hm⟩ : ∃ m, es.length - k = m + 1 := ⟨es.length - k - 1, by omega⟩
  rw [hm, show es.length - (k + 1) = m by omega, List.replicate_succ]
  simp
/-- An integer's cells; a line's. -/
def ienc (x : Int) : List Value := [.int .i64 x]
theorem ienc_len (x : Int) : (ienc x).length = 1 := rfl
theorem ienc_one (x : Int) : ∀ v ∈ ienc x, v.oneCell' = true := by intro v hv; rw [List.mem_singleton.1 hv]; rfl
theorem cat_ienc (xs : List Int) : cat ienc xs = xs.map (Value.int .i64) := by
  induction xs with
  | nil => rfl
  | cons x xs ih => rw [cat_cons, ih]; rfl
structure Ln where
  val : List Int
  property : val.length = 8
def lenc (l : Ln) : List Value := l.val.map (Value.int .u64)
theorem lenc_len (l : Ln) : (lenc l).length = 8 := by simp [lenc, l.property]
theorem lenc_one (l : Ln) : ∀ v ∈ lenc l, v.oneCell' = true := by
  intro v hv
  simp only [lenc, List.mem_map] at hv
  obtain ⟨x, _, rfl⟩ := hv; rfl
def lnOf (X : List Int) (i : Nat) : Ln := if h : (ln X i).length = 8 then ⟨ln X i, h⟩ else ⟨[0, 0, 0, 0, 0, 0, 0, 0], rfl⟩
theorem lnOf_val {n : Nat} (X : List Int) (i : Nat) (hX : X.length = n * 8) (hi : i < n) : (lnOf X i).val = ln X i := by
  have := ln_length X i (fit_line hX hi)
  unfold lnOf
  rw [dif_pos this]
/-- The first k lines. -/
def lns (X : List Int) (k : Nat) : List Ln := (List.range k).map (lnOf X)
theorem lns_length (X : List Int) (k : Nat) : (lns X k).length = k := by simp [lns]
theorem lns_succ (X : List Int) (k : Nat) : lns X k ++ [lnOf X k] = lns X (k + 1) := by simp [lns, List.range_succ]
theorem cat_lns {n : Nat} (X : List Int) (hX : X.length = n * 8) : ∀ k, k ≤ n → cat lenc (lns X k) = (X.take (k * 8)).map (Value.int .u64)
  | 0, _ => by simp [lns, cat]
  | k + 1, h => by
    rw [← lns_succ, cat_append, cat_lns X hX k (by omega), cat_one, show (k + 1) * 8 = k * 8 + 8 by omega, List.take_add, List.map_append]
    congr 1
    unfold lenc
    rw [lnOf_val X k hX (by omega)]
    rfl
theorem cat_lns_all {n : Nat} (X : List Int) (hX : X.length = n * 8) : cat lenc (lns X n) = X.map (Value.int .u64) := by
  rw [cat_lns X hX n (Nat.le_refl _), List.take_of_length_le (by omega)]
end Go.Proofs.YtadeoflkppiflaaDoor
