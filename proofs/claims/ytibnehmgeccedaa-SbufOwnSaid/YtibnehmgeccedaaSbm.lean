/- Entries in a ring of sixteen places; what a store buffer answers and keeps. No condition. -/
import Derived.Test.YtibnehmgeccedaaSeq
namespace Go.Proofs.Ytibnehmgeccedaa
open Go.RowKit
set_option linter.unusedVariables false
set_option maxHeartbeats 1000000

/-- An entry: a store, or a flush. -/
structure Se where
  kd : Int
  li : Int
  wo : Int
  va : Int
  sn : Bool
deriving DecidableEq
def Se.enc (e : Se) : List Value := [.int .i64 e.kd, .int .i64 e.li, .int .i64 e.wo, .int .u64 e.va, .bool e.sn]
theorem Se.len (e : Se) : (Se.enc e).length = 5 := rfl
theorem Se.one (e : Se) : ∀ v ∈ Se.enc e, v.oneCell' = true := by
  intro v hv
  simp only [Se.enc, List.mem_cons, List.not_mem_nil, or_false] at hv
  rcases hv with rfl | rfl | rfl | rfl | rfl <;> rfl
def sent (e : Se) : Se := { e with sn := true }
def seZ : Se := ⟨0, 0, 0, 0, false⟩
/-- Its cells. -/
def sec (e : Se) : Array Value := (Se.enc e).toArray
theorem sec_size (e : Se) : (sec e).size = 5 := by simp [sec, Se.enc]
theorem sec_one (e : Se) : allOne (sec e) := allOne_list _ (List.all_eq_true.2 (Se.one e))
theorem sec_kd (e : Se) : (sec e)[0]? = some (.int .i64 e.kd) := rfl
theorem sec_li (e : Se) : (sec e)[1]? = some (.int .i64 e.li) := rfl
theorem sec_wo (e : Se) : (sec e)[2]? = some (.int .i64 e.wo) := rfl
theorem sec_va (e : Se) : (sec e)[3]? = some (.int .u64 e.va) := rfl
theorem sec_sn (e : Se) : (sec e)[4]? = some (.bool e.sn) := rfl
theorem sec_lit (k l o v : Int) (s : Bool) : (#[.int .i64 k, .int .i64 l, .int .i64 o, .int .u64 v, .bool s] : Array Value) = sec ⟨k, l, o, v, s⟩ := rfl
theorem sec_z : sec ⟨0, 0, 0, 0, false⟩ = sec seZ := rfl
theorem sec_ne (e : Se) : (sec e = #[]) = False := eq_false (fun h => by have := congrArg Array.size h; rw [sec_size] at this; cases this)
theorem sec_set0 (e : Se) (v : Int) : (sec e).setIfInBounds 0 (.int .i64 v) = sec ⟨v, e.li, e.wo, e.va, e.sn⟩ := by simp [sec, Se.enc]
theorem sec_set1 (e : Se) (v : Int) : (sec e).setIfInBounds 1 (.int .i64 v) = sec ⟨e.kd, v, e.wo, e.va, e.sn⟩ := by simp [sec, Se.enc]
theorem sec_set2 (e : Se) (v : Int) : (sec e).setIfInBounds 2 (.int .i64 v) = sec ⟨e.kd, e.li, v, e.va, e.sn⟩ := by simp [sec, Se.enc]
theorem sec_set3 (e : Se) (v : Int) : (sec e).setIfInBounds 3 (.int .u64 v) = sec ⟨e.kd, e.li, e.wo, v, e.sn⟩ := by simp [sec, Se.enc]
theorem sec_set4 (e : Se) (v : Bool) : (sec e).setIfInBounds 4 (.bool v) = sec ⟨e.kd, e.li, e.wo, e.va, v⟩ := by simp [sec, Se.enc]
theorem seZ_kd : seZ.kd = 0 := rfl
theorem seZ_li : seZ.li = 0 := rfl
theorem seZ_wo : seZ.wo = 0 := rfl
theorem seZ_va : seZ.va = 0 := rfl
theorem seZ_sn : seZ.sn = false := rfl
theorem sec_enc (e : Se) : sec e = (Se.enc e).toArray := rfl
/-- As the walk spells a value of many cells that is put into a variable. -/
theorem fold_sec (C : Array Value) (e : Se) (h : C.size = 5) : Array.foldl (fun cs y => cs.setIfInBounds y.snd y.fst) C (sec e).zipIdx 0 5 = sec e := fold_all _ _ _ (sec_size e) h
def sezV : Value := .agg (sec seZ)
theorem sezV_size : sezV.cells.size = 5 := rfl
theorem sezV_one : ∀ v ∈ sezV.cells, v.oneCell' = true := by intro v hv; simp [sezV, Value.cells, sec, Se.enc] at hv; rcases hv with rfl | rfl | rfl | rfl | rfl <;> rfl

theorem getElem?_splice5 {α : Type} (xs l : List α) (o j : Nat) (h : o + l.length ≤ xs.length) : (splice xs o l)[j]? = if j < o then xs[j]? else if j < o + l.length then l[j - o]? else xs[j]? := by
  unfold splice
  have e1 : (xs.take o).length = o := by simp; omega
  split
  · rename_i h1
    rw [List.append_assoc, List.getElem?_append_left (by omega), List.getElem?_take_of_lt h1]
  · split
    · rename_i h1 h2
      rw [List.append_assoc, List.getElem?_append_right (by omega), e1, List.getElem?_append_left (by omega)]
    · rename_i h1 h2
      rw [List.getElem?_append_right (by simp; omega), List.getElem?_drop]
      congr 1
      simp; omega

/-! ### The ring: sixteen places -/
structure Ring where
  l : List Se
  h : l.length = 16
def Ring.get (r : Ring) (p : Nat) : Se := r.l.getD p seZ
def Ring.put (r : Ring) (p : Nat) (e : Se) : Ring := ⟨r.l.set p e, by rw [List.length_set]; exact r.h⟩
def ringZ : Ring := ⟨List.replicate 16 seZ, rfl⟩
theorem Ring.at (r : Ring) {p : Nat} (hp : p < 16) : r.l[p]? = some (r.get p) := by
  have := r.h
  unfold Ring.get
  rw [List.getElem?_eq_getElem (by omega)]; simp [this, hp]
theorem Ring.put_same (r : Ring) {p : Nat} (hp : p < 16) (e : Se) : (r.put p e).get p = e := by
  have := r.h
  unfold Ring.get Ring.put
  simp [List.getD_eq_getElem?_getD, this, hp]
theorem Ring.put_other (r : Ring) {p q : Nat} (h : p ≠ q) (e : Se) : (r.put p e).get q = r.get q := by
  unfold Ring.get Ring.put
  simp [List.getD_eq_getElem?_getD, h]
/-- The place of what stands n behind the first one. -/
def pl (f n : Nat) : Nat := (f + n) % 16
theorem pl_lt (f n : Nat) : pl f n < 16 := Nat.mod_lt _ (by omega)
theorem pl_ne {f n m : Nat} (h : n < m) (hm : m < 16 + n) : pl f n ≠ pl f m := by unfold pl; omega
theorem pl_zero {f : Nat} (h : f < 16) : pl f 0 = f := by unfold pl; omega
theorem pl_next (f n : Nat) : pl (pl f 1) n = pl f (n + 1) := by unfold pl; omega
theorem fit_pl (f n : Nat) : Fit (1 + pl f n * 5) 5 83 = True := by have := pl_lt f n; exact eq_true (show _ ≤ _ by omega)
/-- A buffer's cells. -/
def bfc (room : Int) (r : Ring) (f c : Nat) : Array Value := (.int .i64 room :: (cat Se.enc r.l ++ [.int .i64 f, .int .i64 c])).toArray
section
variable (room : Int) (r : Ring) (f c : Nat)
theorem ring_cells : (cat Se.enc r.l).length = 80 := by rw [cat_length Se.len, r.h]
theorem bfc_size : (bfc room r f c).size = 83 := by simp [bfc, ring_cells]
theorem bfc_one : allOne (bfc room r f c) := by
  refine allOne_list _ (List.all_eq_true.2 fun v hv => ?_)
  rcases List.mem_cons.1 hv with rfl | hv
  · rfl
  rcases List.mem_append.1 hv with hv | hv
  · exact cat_one_cell Se.one _ v hv
  · simp only [List.mem_cons, List.not_mem_nil, or_false] at hv
    rcases hv with rfl | rfl <;> rfl
theorem bfc_room : (bfc room r f c)[0]? = some (.int .i64 room) := by simp [bfc]
theorem bfc_first : (bfc room r f c)[81]? = some (.int .i64 f) := by
  unfold bfc
  rw [List.getElem?_toArray, List.getElem?_cons_succ, List.getElem?_append_right (by rw [ring_cells]; omega), ring_cells]; rfl
theorem bfc_count : (bfc room r f c)[82]? = some (.int .i64 c) := by
  unfold bfc
  rw [List.getElem?_toArray, List.getElem?_cons_succ, List.getElem?_append_right (by rw [ring_cells]; omega), ring_cells]; rfl
theorem bfc_setFirst (g : Nat) : (bfc room r f c).setIfInBounds 81 (.int .i64 g) = bfc room r g c := by
  unfold bfc
  rw [List.setIfInBounds_toArray, List.set_cons_succ, List.set_append_right _ _ (by rw [ring_cells]; omega), ring_cells]; rfl
theorem bfc_setCount (g : Nat) : (bfc room r f c).setIfInBounds 82 (.int .i64 g) = bfc room r f g := by
  unfold bfc
  rw [List.setIfInBounds_toArray, List.set_cons_succ, List.set_append_right _ _ (by rw [ring_cells]; omega), ring_cells]; rfl
theorem bfc_in (t : TypeId) (g : Nat × Nat) (n : Nat) : rowIn (some (.cells (bfc room r f c) t g)) (1 + pl f n * 5) 5 = true := by
  have := pl_lt f n
  rw [rowIn_some, bfc_size]; exact decide_eq_true (show _ ≤ _ by omega)
theorem bfc_has (t : TypeId) (n : Nat) : rowHas (some (.cells (bfc room r f c) t (0, 0))) (1 + pl f n * 5) 5 = true := by
  have := pl_lt f n
  rw [rowHas_some, bfc_size]; exact decide_eq_true (show _ ≤ _ by omega)
theorem bfc_part (t : TypeId) (g : Nat × Nat) (n : Nat) : rowPart (some (.cells (bfc room r f c) t g)) (1 + pl f n * 5) 5 = sec (r.get (pl f n)) := by
  have h1 := pl_lt f n
  have h2 := ring_cells r
  rw [rowPart_some, sec_enc]
  unfold bfc
  rw [List.toList_toArray, Nat.add_comm 1, List.drop_succ_cons, List.drop_append_of_le_length (by omega), List.take_append_of_le_length (by rw [List.length_drop]; omega), cat_part Se.len (r.at h1)]
theorem bfc_put (t : TypeId) (g : Nat × Nat) (n : Nat) (e : Se) : rowPut (some (.cells (bfc room r f c) t g)) (1 + pl f n * 5) (sec e) = some (.cells (bfc room (r.put (pl f n) e) f c) t g) := by
  have h1 := pl_lt f n
  have h2 := ring_cells r
  rw [rowPut_some, sec_enc]
  unfold bfc Ring.put
  have e1 : ∀ (v : Value) (l : List Value) (o : Nat), splice (v :: l) (o + 1) (Se.enc e) = v :: splice l o (Se.enc e) := by
    intro v l o
    unfold splice
    rw [List.take_succ_cons, show o + 1 + (Se.enc e).length = (o + (Se.enc e).length) + 1 by omega, List.drop_succ_cons]; rfl
  rw [List.toList_toArray, List.toList_toArray, Nat.add_comm 1, e1, splice_append _ _ _ _ (by rw [h2, Se.len]; omega), ← cat_one (enc := Se.enc) e, cat_splice Se.len]
  have h3 : splice r.l (pl f n) [e] = r.l.set (pl f n) e := by
    have := r.h
    have e2 : r.l.set (pl f n) e = r.l.take (pl f n) ++ e :: r.l.drop (pl f n + 1) := List.set_eq_take_append_cons_drop.trans (if_pos (by omega))
    rw [e2]
    simp [splice]
  rw [h3]
theorem bfc_cell {n j : Nat} (hj : j < 5) : (bfc room r f c)[1 + pl f n * 5 + j]? = (Se.enc (r.get (pl f n)))[j]? := by
  have hp := bfc_part room r f c 0 (0, 0) n
  rw [rowPart_some] at hp
  have hpl := congrArg Array.toList hp
  rw [List.toList_toArray] at hpl
  have := congrArg (·[j]?) hpl
  simpa [List.getElem?_take, hj, List.getElem?_drop, sec] using this
theorem bfc_kd (n : Nat) : (bfc room r f c)[1 + pl f n * 5]? = some (.int .i64 (r.get (pl f n)).kd) := bfc_cell room r f c (j := 0) (by omega)
theorem bfc_li (n : Nat) : (bfc room r f c)[1 + pl f n * 5 + 1]? = some (.int .i64 (r.get (pl f n)).li) := bfc_cell room r f c (by omega)
theorem bfc_wo (n : Nat) : (bfc room r f c)[1 + pl f n * 5 + 2]? = some (.int .i64 (r.get (pl f n)).wo) := bfc_cell room r f c (by omega)
theorem bfc_va (n : Nat) : (bfc room r f c)[1 + pl f n * 5 + 3]? = some (.int .u64 (r.get (pl f n)).va) := bfc_cell room r f c (by omega)
theorem bfc_sn (n : Nat) : (bfc room r f c)[1 + pl f n * 5 + 4]? = some (.bool (r.get (pl f n)).sn) := bfc_cell room r f c (by omega)
theorem bfc_sent (t : TypeId) (g : Nat × Nat) (n : Nat) : rowSet (some (.cells (bfc room r f c) t g)) (1 + pl f n * 5 + 4) (.bool true) = some (.cells (bfc room (r.put (pl f n) (sent (r.get (pl f n)))) f c) t g) := by
  have h1 := pl_lt f n
  have h2 := ring_cells r
  have h3 := bfc_put room r f c t g n (sent (r.get (pl f n)))
  rw [← h3, rowPut_some, rowSet_some]
  congr 2
  have hs : (bfc room r f c).toList.length = 83 := by rw [Array.length_toList, bfc_size]
  apply Array.ext_getElem?
  intro k
  rw [← Array.getElem?_toList, ← Array.getElem?_toList, List.toList_toArray, Array.toList_setIfInBounds]
  rw [getElem?_splice5 _ _ _ _ (by rw [hs]; show _ + 5 ≤ 83; omega)]
  have hc : ∀ j, j < 5 → (bfc room r f c).toList[1 + pl f n * 5 + j]? = (Se.enc (r.get (pl f n)))[j]? := fun j hj => by
    rw [Array.getElem?_toList]; exact bfc_cell room r f c hj
  show _ = if k < 1 + pl f n * 5 then _ else if k < 1 + pl f n * 5 + 5 then _ else _
  by_cases ha : k < 1 + pl f n * 5
  · rw [if_pos ha, List.getElem?_set_ne (by omega)]
  rw [if_neg ha]
  by_cases hb : k < 1 + pl f n * 5 + 5
  · rw [if_pos hb]
    obtain ⟨j, rfl⟩ : ∃ j, k = 1 + pl f n * 5 + j := ⟨k - (1 + pl f n * 5), by omega⟩
    have hj : j < 5 := by omega
    have hcj := hc j hj
    rw [show 1 + pl f n * 5 + j - (1 + pl f n * 5) = j by omega]
    match j, hj with
    | 0, _ => rw [List.getElem?_set_ne (by omega), hcj]; rfl
    | 1, _ => rw [List.getElem?_set_ne (by omega), hcj]; rfl
    | 2, _ => rw [List.getElem?_set_ne (by omega), hcj]; rfl
    | 3, _ => rw [List.getElem?_set_ne (by omega), hcj]; rfl
    | 4, _ => rw [List.getElem?_set_self (by rw [hs]; omega)]; rfl
  · rw [if_neg hb, List.getElem?_set_ne (by omega)]
end
/-! ### What calls answer, and leave -/
def within12 (n a b : Int) : Bool := decide (a ≤ n) && decide (n ≤ b)
def goodSe (e : Se) : Bool :=
  within12 e.li 0 63 && !e.sn && ((e.kd == 9 && within12 e.wo 0 7) || ((e.kd == 12 || e.kd == 13 || e.kd == 14) && (e.wo == 0 && e.va == 0)))
/-- The same, in the document's own order. -/
def rgoodSe (e : Se) : Bool :=
  !decide (e.li < 0) && !decide (63 < e.li) && !decide (e.wo < 0) && !decide (7 < e.wo) && !e.sn && ((e.kd == 9) || ((e.kd == 12 || e.kd == 13 || e.kd == 14) && (e.wo == 0 && e.va == 0)))
theorem rgood_good (e : Se) : rgoodSe e = goodSe e := by
  rw [Bool.eq_iff_iff]
  simp only [rgoodSe, goodSe, within12, Bool.and_eq_true, Bool.or_eq_true, Bool.not_eq_true', decide_eq_true_eq, decide_eq_false_iff_not, beq_iff_eq]
  constructor
  · rintro ⟨⟨⟨⟨⟨h1, h2⟩, h3⟩, h4⟩, h5⟩, h6⟩
    refine ⟨⟨⟨by omega, by omega⟩, h5⟩, ?_⟩
    rcases h6 with h | ⟨h, h7, h8⟩
    · exact .inl ⟨h, by omega, by omega⟩
    · exact .inr ⟨h, h7, h8⟩
  · rintro ⟨⟨⟨h1, h2⟩, h5⟩, h6⟩
    rcases h6 with ⟨h, h7, h8⟩ | ⟨h, h7, h8⟩
    · exact ⟨⟨⟨⟨⟨by omega, by omega⟩, by omega⟩, by omega⟩, h5⟩, .inl h⟩
    · exact ⟨⟨⟨⟨⟨by omega, by omega⟩, by omega⟩, by omega⟩, h5⟩, .inr ⟨h, h7, h8⟩⟩
def sbV (room : Nat) (es : List Se) (e : Se) : Int := if goodSe e then (if room ≤ es.length then 13 else 0) else 11
def sbE (room : Nat) (es : List Se) (e : Se) : List Se := if goodSe e then (if room ≤ es.length then es else es ++ [e]) else es
def hdE (es : List Se) : Se := es.headD seZ
def hdB (es : List Se) : Bool := !es.isEmpty
def isAt (li wo : Int) (e : Se) : Bool := e.kd == 9 && (e.li == li && e.wo == wo)
def fdO (es : List Se) (li wo : Int) : Option Se := es.reverse.find? (isAt li wo)
def fdV (es : List Se) (li wo : Int) : Int := match fdO es li wo with | some e => e.va | none => 0
def fdB (es : List Se) (li wo : Int) : Bool := (fdO es li wo).isSome
def sdE : List Se → List Se
  | [] => []
  | e :: es => if e.kd = 14 then sent e :: es else e :: es
theorem sdE_length (es : List Se) : (sdE es).length = es.length := by
  cases es with
  | nil => rfl
  | cons e es => simp only [sdE]; split <;> rfl
theorem fdO_none {es : List Se} {li wo : Int} (h : ∀ e ∈ es, isAt li wo e = false) : fdO es li wo = none := by
  unfold fdO
  rw [List.find?_eq_none]
  intro x hx
  simp [h x (List.mem_reverse.1 hx)]
theorem fdO_some {es : List Se} {li wo : Int} {k : Nat} {e : Se} (he : es[k]? = some e) (h : isAt li wo e = true) (hd : ∀ x ∈ es.drop (k + 1), isAt li wo x = false) : fdO es li wo = some e := by
  obtain ⟨hk, rfl⟩ := List.getElem?_eq_some_iff.1 he
  have hc : es = es.take k ++ es[k] :: es.drop (k + 1) := by rw [← List.drop_eq_getElem_cons hk, List.take_append_drop]
  unfold fdO
  rw [show es.reverse = (es.drop (k + 1)).reverse ++ es[k] :: (es.take k).reverse by
    conv => lhs; rw [hc]
    simp, List.find?_append, List.find?_eq_none.2 (by
    intro x hx
    simp [hd x (List.mem_reverse.1 hx)]), List.find?_cons_of_pos h]
  rfl
theorem drop_all12 {α : Type} {p : α → Bool} {es : List α} {k : Nat} {e : α} (he : es[k]? = some e) (h : p e = false) (hd : ∀ x ∈ es.drop (k + 1), p x = false) : ∀ x ∈ es.drop k, p x = false := by
  obtain ⟨hk, rfl⟩ := List.getElem?_eq_some_iff.1 he
  rw [List.drop_eq_getElem_cons hk]
  intro x hx
  rcases List.mem_cons.1 hx with rfl | hx
  · exact h
  · exact hd x hx
end Go.Proofs.Ytibnehmgeccedaa
