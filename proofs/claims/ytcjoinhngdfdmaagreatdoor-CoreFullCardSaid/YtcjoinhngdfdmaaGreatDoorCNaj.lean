/- Texts of the walk, one behind the other: Sbm Alu Alub Cop Cor Isa Isb. No condition. -/
import Derived.Test.YtcjoinhngdfdmaaGreatDoorCNaa
import Derived.Test.YtcjoinhngdfdmaaGreatDoorCNab
import Derived.Test.YtcjoinhngdfdmaaGreatDoorCNai
import Derived.BigQuiet
import Derived.Deep.QuietTactic
import Derived.Laws.Bits64b
import Derived.Lib.Hide
import Derived.Maps.OwnOps
import Derived.Test.YtcjoinhngdfdmaaGreatDoorChecked
import Derived.WalkKit
section
namespace Go.Proofs.YtcjoinhngdfdmaaGreatDoor
open Go.RowKit
set_option linter.unusedVariables false
set_option maxHeartbeats 1000000

/-- An entry: a store, or a flush. -/
structure Se where
  kd : Int
  li : Int
  wo : Int
  va : Int
  sn : Bool
deriving DecidableEq
def Se.enc (e : Se) : List Value := [.int .i64 e.kd, .int .i64 e.li, .int .i64 e.wo, .int .u64 e.va, .bool e.sn]
theorem Se.len (e : Se) : (Se.enc e).length = 5 := rfl
theorem Se.one (e : Se) : ∀ v ∈ Se.enc e, v.oneCell' = true := by
  intro v hv
  simp only [Se.enc, List.mem_cons, List.not_mem_nil, or_false] at hv
  rcases hv with rfl | rfl | rfl | rfl | rfl <;> rfl
def sent (e : Se) : Se := { e with sn := true }
def seZ : Se := ⟨0, 0, 0, 0, false⟩
/-- Its cells. -/
def sec (e : Se) : Array Value := (Se.enc e).toArray
theorem sec_size (e : Se) : (sec e).size = 5 := by simp [sec, Se.enc]
theorem sec_one (e : Se) : allOne (sec e) := allOne_list _ (List.all_eq_true.2 (Se.one e))
theorem sec_kd (e : Se) : (sec e)[0]? = some (.int .i64 e.kd) := rfl
theorem sec_li (e : Se) : (sec e)[1]? = some (.int .i64 e.li) := rfl
theorem sec_wo (e : Se) : (sec e)[2]? = some (.int .i64 e.wo) := rfl
theorem sec_va (e : Se) : (sec e)[3]? = some (.int .u64 e.va) := rfl
theorem sec_sn (e : Se) : (sec e)[4]? = some (.bool e.sn) := rfl
theorem sec_lit (k l o v : Int) (s : Bool) : (#[.int .i64 k, .int .i64 l, .int .i64 o, .int .u64 v, .bool s] : Array Value) = sec ⟨k, l, o, v, s⟩ := rfl
theorem sec_z : sec ⟨0, 0, 0, 0, false⟩ = sec seZ := rfl
theorem sec_ne (e : Se) : (sec e = #[]) = False := eq_false (fun h => by have := congrArg Array.size h; rw [sec_size] at this; cases this)
theorem sec_set0 (e : Se) (v : Int) : (sec e).setIfInBounds 0 (.int .i64 v) = sec ⟨v, e.li, e.wo, e.va, e.sn⟩ := by simp [sec, Se.enc]
theorem sec_set1 (e : Se) (v : Int) : (sec e).setIfInBounds 1 (.int .i64 v) = sec ⟨e.kd, v, e.wo, e.va, e.sn⟩ := by simp [sec, Se.enc]
theorem sec_set2 (e : Se) (v : Int) : (sec e).setIfInBounds 2 (.int .i64 v) = sec ⟨e.kd, e.li, v, e.va, e.sn⟩ := by simp [sec, Se.enc]
theorem sec_set3 (e : Se) (v : Int) : (sec e).setIfInBounds 3 (.int .u64 v) = sec ⟨e.kd, e.li, e.wo, v, e.sn⟩ := by simp [sec, Se.enc]
theorem sec_set4 (e : Se) (v : Bool) : (sec e).setIfInBounds 4 (.bool v) = sec ⟨e.kd, e.li, e.wo, e.va, v⟩ := by simp [sec, Se.enc]
theorem seZ_kd : seZ.kd = 0 := rfl
theorem seZ_li : seZ.li = 0 := rfl
theorem seZ_wo : seZ.wo = 0 := rfl
theorem seZ_va : seZ.va = 0 := rfl
theorem seZ_sn : seZ.sn = false := rfl
theorem sec_enc (e : Se) : sec e = (Se.enc e).toArray := rfl
/-- As the walk spells a value of many cells that is put into a variable. -/
theorem fold_sec (C : Array Value) (e : Se) (h : C.size = 5) : Array.foldl (fun cs y => cs.setIfInBounds y.snd y.fst) C (sec e).zipIdx 0 5 = sec e := fold_all _ _ _ (sec_size e) h
def sezV : Value := .agg (sec seZ)
theorem sezV_size : sezV.cells.size = 5 := rfl
theorem getElem?_splice5 {α : Type} (xs l : List α) (o j : Nat) (h : o + l.length ≤ xs.length) : (splice xs o l)[j]? = if j < o then xs[j]? else if j < o + l.length then l[j - o]? else xs[j]? := by
  unfold splice
  have e1 : (xs.take o).length = o := by simp; omega
  split
  · rename_i h1
    rw [List.append_assoc, List.getElem?_append_left (by omega), List.getElem?_take_of_lt h1]
  · split
    · rename_i h1 h2
      rw [List.append_assoc, List.getElem?_append_right (by omega), e1, List.getElem?_append_left (by omega)]
    · rename_i h1 h2
      rw [List.getElem?_append_right (by simp; omega), List.getElem?_drop]
      congr 1
      simp; omega

/-! ### The ring: sixteen places -/
structure Ring where
  l : List Se
  h : l.length = 16
def Ring.get (r : Ring) (p : Nat) : Se := r.l.getD p seZ
def Ring.put (r : Ring) (p : Nat) (e : Se) : Ring := ⟨r.l.set p e, by rw [List.length_set]; exact r.h⟩
def ringZ : Ring := ⟨List.replicate 16 seZ, rfl⟩
theorem Ring.at (r : Ring) {p : Nat} (hp : p < 16) : r.l[p]? = some (r.get p) := by
  have := r.h
  unfold Ring.get
  rw [List.getElem?_eq_getElem (by omega)]; simp [this, hp]
theorem Ring.put_same (r : Ring) {p : Nat} (hp : p < 16) (e : Se) : (r.put p e).get p = e := by
  have := r.h
  unfold Ring.get Ring.put
  simp [List.getD_eq_getElem?_getD, this, hp]
theorem Ring.put_other (r : Ring) {p q : Nat} (h : p ≠ q) (e : Se) : (r.put p e).get q = r.get q := by
  unfold Ring.get Ring.put
  simp [List.getD_eq_getElem?_getD, h]
/-- The place of what stands n behind the first one. -/
def pl (f n : Nat) : Nat := (f + n) % 16
theorem pl_lt (f n : Nat) : pl f n < 16 := Nat.mod_lt _ (by omega)
theorem pl_ne {f n m : Nat} (h : n < m) (hm : m < 16 + n) : pl f n ≠ pl f m := by unfold pl; omega
theorem fit_pl (f n : Nat) : Fit (1 + pl f n * 5) 5 83 = True := by have := pl_lt f n; exact eq_true (show _ ≤ _ by omega)
/-- A buffer's cells. -/
def bfc (room : Int) (r : Ring) (f c : Nat) : Array Value := (.int .i64 room :: (cat Se.enc r.l ++ [.int .i64 f, .int .i64 c])).toArray
section
variable (room : Int) (r : Ring) (f c : Nat)
theorem ring_cells : (cat Se.enc r.l).length = 80 := by rw [cat_length Se.len, r.h]
theorem bfc_size : (bfc room r f c).size = 83 := by simp [bfc, ring_cells]
theorem bfc_one : allOne (bfc room r f c) := by
  refine allOne_list _ (List.all_eq_true.2 fun v hv => ?_)
  rcases List.mem_cons.1 hv with rfl | hv
  · rfl
  rcases List.mem_append.1 hv with hv | hv
  · exact cat_one_cell Se.one _ v hv
  · simp only [List.mem_cons, List.not_mem_nil, or_false] at hv
    rcases hv with rfl | rfl <;> rfl
theorem bfc_room : (bfc room r f c)[0]? = some (.int .i64 room) := by simp [bfc]
theorem bfc_first : (bfc room r f c)[81]? = some (.int .i64 f) := by
  unfold bfc
  rw [List.getElem?_toArray, List.getElem?_cons_succ, List.getElem?_append_right (by rw [ring_cells]; omega), ring_cells]; rfl
theorem bfc_count : (bfc room r f c)[82]? = some (.int .i64 c) := by
  unfold bfc
  rw [List.getElem?_toArray, List.getElem?_cons_succ, List.getElem?_append_right (by rw [ring_cells]; omega), ring_cells]; rfl
theorem bfc_setFirst (g : Nat) : (bfc room r f c).setIfInBounds 81 (.int .i64 g) = bfc room r g c := by
  unfold bfc
  rw [List.setIfInBounds_toArray, List.set_cons_succ, List.set_append_right _ _ (by rw [ring_cells]; omega), ring_cells]; rfl
theorem bfc_setCount (g : Nat) : (bfc room r f c).setIfInBounds 82 (.int .i64 g) = bfc room r f g := by
  unfold bfc
  rw [List.setIfInBounds_toArray, List.set_cons_succ, List.set_append_right _ _ (by rw [ring_cells]; omega), ring_cells]; rfl
theorem bfc_in (t : TypeId) (g : Nat × Nat) (n : Nat) : rowIn (some (.cells (bfc room r f c) t g)) (1 + pl f n * 5) 5 = true := by
  have := pl_lt f n
  rw [rowIn_some, bfc_size]; exact decide_eq_true (show _ ≤ _ by omega)
theorem bfc_has (t : TypeId) (n : Nat) : rowHas (some (.cells (bfc room r f c) t (0, 0))) (1 + pl f n * 5) 5 = true := by
  have := pl_lt f n
  rw [rowHas_some, bfc_size]; exact decide_eq_true (show _ ≤ _ by omega)
theorem bfc_part (t : TypeId) (g : Nat × Nat) (n : Nat) : rowPart (some (.cells (bfc room r f c) t g)) (1 + pl f n * 5) 5 = sec (r.get (pl f n)) := by
  have h1 := pl_lt f n
  have h2 := ring_cells r
  rw [rowPart_some, sec_enc]
  unfold bfc
  rw [List.toList_toArray, Nat.add_comm 1, List.drop_succ_cons, List.drop_append_of_le_length (by omega), List.take_append_of_le_length (by rw [List.length_drop]; omega), cat_part Se.len (r.at h1)]
theorem bfc_put (t : TypeId) (g : Nat × Nat) (n : Nat) (e : Se) : rowPut (some (.cells (bfc room r f c) t g)) (1 + pl f n * 5) (sec e) = some (.cells (bfc room (r.put (pl f n) e) f c) t g) := by
  have h1 := pl_lt f n
  have h2 := ring_cells r
  rw [rowPut_some, sec_enc]
  unfold bfc Ring.put
  have e1 : ∀ (v : Value) (l : List Value) (o : Nat), splice (v :: l) (o + 1) (Se.enc e) = v :: splice l o (Se.enc e) := by
    intro v l o
    unfold splice
    rw [List.take_succ_cons, show o + 1 + (Se.enc e).length = (o + (Se.enc e).length) + 1 by omega, List.drop_succ_cons]; rfl
  rw [List.toList_toArray, List.toList_toArray, Nat.add_comm 1, e1, splice_append _ _ _ _ (by rw [h2, Se.len]; omega), ← cat_one (enc := Se.enc) e, cat_splice Se.len]
  have h3 : splice r.l (pl f n) [e] = r.l.set (pl f n) e := by
    have := r.h
    have e2 : r.l.set (pl f n) e = r.l.take (pl f n) ++ e :: r.l.drop (pl f n + 1) := List.set_eq_take_append_cons_drop.trans (if_pos (by omega))
    rw [e2]
    simp [splice]
  rw [h3]
theorem bfc_cell {n j : Nat} (hj : j < 5) : (bfc room r f c)[1 + pl f n * 5 + j]? = (Se.enc (r.get (pl f n)))[j]? := by
  have hp := bfc_part room r f c 0 (0, 0) n
  rw [rowPart_some] at hp
  have hpl := congrArg Array.toList hp
  rw [List.toList_toArray] at hpl
  have := congrArg (·[j]?) hpl
  simpa [List.getElem?_take, hj, List.getElem?_drop, sec] using this
theorem bfc_kd (n : Nat) : (bfc room r f c)[1 + pl f n * 5]? = some (.int .i64 (r.get (pl f n)).kd) := bfc_cell room r f c (j := 0) (by omega)
theorem bfc_li (n : Nat) : (bfc room r f c)[1 + pl f n * 5 + 1]? = some (.int .i64 (r.get (pl f n)).li) := bfc_cell room r f c (by omega)
theorem bfc_wo (n : Nat) : (bfc room r f c)[1 + pl f n * 5 + 2]? = some (.int .i64 (r.get (pl f n)).wo) := bfc_cell room r f c (by omega)
theorem bfc_va (n : Nat) : (bfc room r f c)[1 + pl f n * 5 + 3]? = some (.int .u64 (r.get (pl f n)).va) := bfc_cell room r f c (by omega)
theorem bfc_sent (t : TypeId) (g : Nat × Nat) (n : Nat) : rowSet (some (.cells (bfc room r f c) t g)) (1 + pl f n * 5 + 4) (.bool true) = some (.cells (bfc room (r.put (pl f n) (sent (r.get (pl f n)))) f c) t g) := by
  have h1 := pl_lt f n
  have h2 := ring_cells r
  have h3 := bfc_put room r f c t g n (sent (r.get (pl f n)))
  rw [← h3, rowPut_some, rowSet_some]
  congr 2
  have hs : (bfc room r f c).toList.length = 83 := by rw [Array.length_toList, bfc_size]
  apply Array.ext_getElem?
  intro k
  rw [← Array.getElem?_toList, ← Array.getElem?_toList, List.toList_toArray, Array.toList_setIfInBounds]
  rw [getElem?_splice5 _ _ _ _ (by rw [hs]; show _ + 5 ≤ 83; omega)]
  have hc : ∀ j, j < 5 → (bfc room r f c).toList[1 + pl f n * 5 + j]? = (Se.enc (r.get (pl f n)))[j]? := fun j hj => by
    rw [Array.getElem?_toList]; exact bfc_cell room r f c hj
  show _ = if k < 1 + pl f n * 5 then _ else if k < 1 + pl f n * 5 + 5 then _ else _
  by_cases ha : k < 1 + pl f n * 5
  · rw [if_pos ha, List.getElem?_set_ne (by omega)]
  rw [if_neg ha]
  by_cases hb : k < 1 + pl f n * 5 + 5
  · rw [if_pos hb]
    obtain ⟨j, rfl⟩ : ∃ j, k = 1 + pl f n * 5 + j := ⟨k - (1 + pl f n * 5), by omega⟩
    have hj : j < 5 := by omega
    have hcj := hc j hj
    rw [show 1 + pl f n * 5 + j - (1 + pl f n * 5) = j by omega]
    match j, hj with
    | 0, _ => rw [List.getElem?_set_ne (by omega), hcj]; rfl
    | 1, _ => rw [List.getElem?_set_ne (by omega), hcj]; rfl
    | 2, _ => rw [List.getElem?_set_ne (by omega), hcj]; rfl
    | 3, _ => rw [List.getElem?_set_ne (by omega), hcj]; rfl
    | 4, _ => rw [List.getElem?_set_self (by rw [hs]; omega)]; rfl
  · rw [if_neg hb, List.getElem?_set_ne (by omega)]
end
/-! ### What calls answer, and leave -/
def within12 (n a b : Int) : Bool := decide (a ≤ n) && decide (n ≤ b)
def goodSe (e : Se) : Bool :=
  within12 e.li 0 63 && !e.sn && ((e.kd == 9 && within12 e.wo 0 7) || ((e.kd == 12 || e.kd == 13 || e.kd == 14) && (e.wo == 0 && e.va == 0)))
def sbV (room : Nat) (es : List Se) (e : Se) : Int := if goodSe e then (if room ≤ es.length then 13 else 0) else 11
def sbE (room : Nat) (es : List Se) (e : Se) : List Se := if goodSe e then (if room ≤ es.length then es else es ++ [e]) else es
def isAt (li wo : Int) (e : Se) : Bool := e.kd == 9 && (e.li == li && e.wo == wo)
def fdO (es : List Se) (li wo : Int) : Option Se := es.reverse.find? (isAt li wo)
def fdV (es : List Se) (li wo : Int) : Int := match fdO es li wo with | some e => e.va | none => 0
def fdB (es : List Se) (li wo : Int) : Bool := (fdO es li wo).isSome
theorem fdO_none {es : List Se} {li wo : Int} (h : ∀ e ∈ es, isAt li wo e = false) : fdO es li wo = none := by
  unfold fdO
  rw [List.find?_eq_none]
  intro x hx
  simp [h x (List.mem_reverse.1 hx)]
theorem fdO_some {es : List Se} {li wo : Int} {k : Nat} {e : Se} (he : es[k]? = some e) (h : isAt li wo e = true) (hd : ∀ x ∈ es.drop (k + 1), isAt li wo x = false) : fdO es li wo = some e := by
  obtain ⟨hk, rfl⟩ := List.getElem?_eq_some_iff.1 he
  have hc : es = es.take k ++ es[k] :: es.drop (k + 1) := by rw [← List.drop_eq_getElem_cons hk, List.take_append_drop]
  unfold fdO
  rw [show es.reverse = (es.drop (k + 1)).reverse ++ es[k] :: (es.take k).reverse by
    conv => lhs; rw [hc]
    simp, List.find?_append, List.find?_eq_none.2 (by
    intro x hx
    simp [hd x (List.mem_reverse.1 hx)]), List.find?_cons_of_pos h]
  rfl
theorem drop_all12 {α : Type} {p : α → Bool} {es : List α} {k : Nat} {e : α} (he : es[k]? = some e) (h : p e = false) (hd : ∀ x ∈ es.drop (k + 1), p x = false) : ∀ x ∈ es.drop k, p x = false := by
  obtain ⟨hk, rfl⟩ := List.getElem?_eq_some_iff.1 he
  rw [List.drop_eq_getElem_cons hk]
  intro x hx
  rcases List.mem_cons.1 hx with rfl | hx
  · exact h
  · exact hd x hx
end Go.Proofs.YtcjoinhngdfdmaaGreatDoor
end
section
namespace Go.Proofs.YtcjoinhngdfdmaaGreatDoor
open Go.RowKit
set_option linter.unusedVariables false
set_option maxHeartbeats 1000000

/-! ### The map of operations, entry by entry -/
def opRow (r g : Value) : Value := .agg #[r, g]
def fnv (n : Nat) : Value := .func (.func n) #[] #[]
/-- Key and value of the j-th entry. -/
def opKey : Nat → Int
  | 0 => 2 | 1 => 3 | 2 => 4 | 3 => 5 | 4 => 6 | 5 => 7 | 6 => 17 | 7 => 18 | 8 => 19 | _ => 20
def opVal : Nat → Value
  | 0 => opRow (fnv 127) .nilFunc | 1 => opRow (fnv 128) .nilFunc | 2 => opRow (fnv 129) .nilFunc
  | 3 => opRow (fnv 130) .nilFunc | 4 => opRow (fnv 131) .nilFunc | 5 => opRow (fnv 132) .nilFunc
  | 6 => opRow .nilFunc (fnv 133) | 7 => opRow .nilFunc (fnv 134) | 8 => opRow .nilFunc (fnv 135) | _ => opRow .nilFunc (fnv 136)
/-- The map behind j stores. -/
def tbl : Nat → Array MapEntry
  | 0 => #[]
  | j + 1 => (tbl j).push { key := .int .i64 (opKey j), val := opVal j, born := j }
def mapW (W : World) (j : Nat) : World := W.alloc (.map (tbl j) j)
theorem mapW_made (W : World) : (Instr.makeMap 177 none).run Tryz.prog W = .ok (.map (some W.heap.size)) (mapW W 0) := rfl
theorem alloc_set (W : World) (a b : Obj) : ({ W.alloc a with heap := (W.alloc a).heap.setIfInBounds W.heap.size b } : World) = W.alloc b := by
  refine World.ext_heap ?_ rfl rfl rfl rfl
  show (W.heap.push a).setIfInBounds W.heap.size b = W.heap.push b
  apply Array.ext'
  rw [Array.toList_setIfInBounds, Array.toList_push, Array.toList_push, ← Array.length_toList, List.set_append_right _ _ (Nat.le_refl _)]
  simp
theorem mapW_at (W : World) (j : Nat) : (mapW W j).heap[W.heap.size]? = some (.map (tbl j) j) := (MapKept.heap_alloc W _).1
theorem under_map (w : World) : (underlying 177).run Tryz.prog w = .ok (.map 3 176) w := run_underlying Tryz.underlying177 w
theorem check_int (k : Int) (e : Bool) (w : World) : (Instr.checkKey e 10000 3 (.int .i64 k)).run Tryz.prog w = .ok () w := MapKept.run_checkKey (d := .int .i64) (k := .int .i64 k) Tryz.underlying3 (by simp [MapKept.IsKey]) e 9999
theorem mapW_put (W : World) (j : Nat) (k : Int) (v : Value) (hk : opKey j = k) (hv : opVal j = v) (h : Instr.findNow (.int .i64) (.int .i64 k) (tbl j).toList 0 = some none) :
    (Instr.mapUpdate 177 (.map (some W.heap.size)) (.int .i64 k) v).run Tryz.prog (mapW W j) = .ok () (mapW W (j + 1)) := by
  subst hk hv
  have hb := mapW_at W j
  have h2 : ∀ w, (Instr.findKey 3 (.int .i64 (opKey j)) (tbl j).toList).run Tryz.prog w = .ok none w := fun w => MapKept.run_findKey Tryz.underlying3 h
  simp only [Instr.mapUpdate, Sem.run_bind, under_map, Result.andThen, getObj, Sem.run, hb, check_int, h2, setObj]
  exact congrArg (Result.ok ()) (alloc_set W (.map (tbl j) j) _)
theorem put0 (W : World) : (Instr.mapUpdate 177 (.map (some W.heap.size)) (.int .i64 2) (.agg #[(.func (.func 127) #[] #[]), .nilFunc])).run Tryz.prog (mapW W 0) = .ok () (mapW W 1) := mapW_put W 0 2 _ rfl rfl rfl
theorem put1 (W : World) : (Instr.mapUpdate 177 (.map (some W.heap.size)) (.int .i64 3) (.agg #[(.func (.func 128) #[] #[]), .nilFunc])).run Tryz.prog (mapW W 1) = .ok () (mapW W 2) := mapW_put W 1 3 _ rfl rfl rfl
theorem put2 (W : World) : (Instr.mapUpdate 177 (.map (some W.heap.size)) (.int .i64 4) (.agg #[(.func (.func 129) #[] #[]), .nilFunc])).run Tryz.prog (mapW W 2) = .ok () (mapW W 3) := mapW_put W 2 4 _ rfl rfl rfl
theorem put3 (W : World) : (Instr.mapUpdate 177 (.map (some W.heap.size)) (.int .i64 5) (.agg #[(.func (.func 130) #[] #[]), .nilFunc])).run Tryz.prog (mapW W 3) = .ok () (mapW W 4) := mapW_put W 3 5 _ rfl rfl rfl
theorem put4 (W : World) : (Instr.mapUpdate 177 (.map (some W.heap.size)) (.int .i64 6) (.agg #[(.func (.func 131) #[] #[]), .nilFunc])).run Tryz.prog (mapW W 4) = .ok () (mapW W 5) := mapW_put W 4 6 _ rfl rfl rfl
theorem put5 (W : World) : (Instr.mapUpdate 177 (.map (some W.heap.size)) (.int .i64 7) (.agg #[(.func (.func 132) #[] #[]), .nilFunc])).run Tryz.prog (mapW W 5) = .ok () (mapW W 6) := mapW_put W 5 7 _ rfl rfl rfl
theorem put6 (W : World) : (Instr.mapUpdate 177 (.map (some W.heap.size)) (.int .i64 17) (.agg #[.nilFunc, (.func (.func 133) #[] #[])])).run Tryz.prog (mapW W 6) = .ok () (mapW W 7) := mapW_put W 6 17 _ rfl rfl rfl
theorem put7 (W : World) : (Instr.mapUpdate 177 (.map (some W.heap.size)) (.int .i64 18) (.agg #[.nilFunc, (.func (.func 134) #[] #[])])).run Tryz.prog (mapW W 7) = .ok () (mapW W 8) := mapW_put W 7 18 _ rfl rfl rfl
theorem put8 (W : World) : (Instr.mapUpdate 177 (.map (some W.heap.size)) (.int .i64 19) (.agg #[.nilFunc, (.func (.func 135) #[] #[])])).run Tryz.prog (mapW W 8) = .ok () (mapW W 9) := mapW_put W 8 19 _ rfl rfl rfl
theorem put9 (W : World) : (Instr.mapUpdate 177 (.map (some W.heap.size)) (.int .i64 20) (.agg #[.nilFunc, (.func (.func 136) #[] #[])])).run Tryz.prog (mapW W 9) = .ok () (mapW W 10) := mapW_put W 9 20 _ rfl rfl rfl
theorem ops_any (W : World) : Calls Tryz.prog 79 #[] W fun e w' => e = .returned (.map (some W.heap.size)) ∧ w' = mapW W 10 := by
  have hm := mapW_made
  have h0 := put0 W
  have h1 := put1 W
  have h2 := put2 W
  have h3 := put3 W
  have h4 := put4 W
  have h5 := put5 W
  have h6 := put6 W
  have h7 := put7 W
  have h8 := put8 W
  have h9 := put9 W
  go_enter Tryz.func79, Tryz.ntmps79
  go_wp2_with fail
  go_ret
  exact ⟨rfl, rfl⟩
/-! ### What the map says of an operation -/
/-- Who reckons. -/
def recF (op : Int) : Value := if op = 2 then .func (.func 127) #[] #[] else if op = 3 then .func (.func 128) #[] #[] else if op = 4 then .func (.func 129) #[] #[] else if op = 5 then .func (.func 130) #[] #[] else if op = 6 then .func (.func 131) #[] #[] else if op = 7 then .func (.func 132) #[] #[] else .nilFunc
/-- Who tells whether it goes. -/
def goF (op : Int) : Value := if op = 17 then .func (.func 133) #[] #[] else if op = 18 then .func (.func 134) #[] #[] else if op = 19 then .func (.func 135) #[] #[] else if op = 20 then .func (.func 136) #[] #[] else .nilFunc
theorem tbl10 : (tbl 10).toList = [
  { key := .int .i64 2, val := .agg #[.func (.func 127) #[] #[], .nilFunc], born := 0 },
  { key := .int .i64 3, val := .agg #[.func (.func 128) #[] #[], .nilFunc], born := 1 },
  { key := .int .i64 4, val := .agg #[.func (.func 129) #[] #[], .nilFunc], born := 2 },
  { key := .int .i64 5, val := .agg #[.func (.func 130) #[] #[], .nilFunc], born := 3 },
  { key := .int .i64 6, val := .agg #[.func (.func 131) #[] #[], .nilFunc], born := 4 },
  { key := .int .i64 7, val := .agg #[.func (.func 132) #[] #[], .nilFunc], born := 5 },
  { key := .int .i64 17, val := .agg #[.nilFunc, .func (.func 133) #[] #[]], born := 6 },
  { key := .int .i64 18, val := .agg #[.nilFunc, .func (.func 134) #[] #[]], born := 7 },
  { key := .int .i64 19, val := .agg #[.nilFunc, .func (.func 135) #[] #[]], born := 8 },
  { key := .int .i64 20, val := .agg #[.nilFunc, .func (.func 136) #[] #[]], born := 9 }] := rfl
theorem zero_op (w : World) : (zeroValue 176).run Tryz.prog w = .ok (.agg #[.nilFunc, .nilFunc]) w := by kernel_rfl
theorem look_some {op : Int} {W : World} {b i : Nat} {v : Value} (hb : W.heap[b]? = some (.map (tbl 10) 10)) (h : Instr.findNow (.int .i64) (.int .i64 op) (tbl 10).toList 0 = some (some (i, v))) :
    (Instr.lookup 177 (.map (some b)) (.int .i64 op) false).run Tryz.prog W = .ok v W := by
  have h2 : ∀ w, (Instr.findKey 3 (.int .i64 op) (tbl 10).toList).run Tryz.prog w = .ok (some (i, v)) w := fun w => MapKept.run_findKey Tryz.underlying3 h
  simp only [Instr.lookup, Sem.run_bind, under_map, Result.andThen, getObj, Sem.run, hb, check_int, Sem.run_pure, h2]
  rfl
theorem look_none {op : Int} {W : World} {b : Nat} (hb : W.heap[b]? = some (.map (tbl 10) 10)) (h : Instr.findNow (.int .i64) (.int .i64 op) (tbl 10).toList 0 = some none) :
    (Instr.lookup 177 (.map (some b)) (.int .i64 op) false).run Tryz.prog W = .ok (.agg #[.nilFunc, .nilFunc]) W := by
  have h2 : ∀ w, (Instr.findKey 3 (.int .i64 op) (tbl 10).toList).run Tryz.prog w = .ok none w := fun w => MapKept.run_findKey Tryz.underlying3 h
  simp only [Instr.lookup, Sem.run_bind, under_map, Result.andThen, getObj, Sem.run, hb, check_int, Sem.run_pure, h2, zero_op]
  rfl
theorem look_op (op : Int) (W : World) (b : Nat) (hb : W.heap[b]? = some (.map (tbl 10) 10)) : (Instr.lookup 177 (.map (some b)) (.int .i64 op) false).run Tryz.prog W = .ok (.agg #[recF op, goF op]) W := by
  by_cases h2 : op = 2
  · subst h2; exact look_some hb rfl
  by_cases h3 : op = 3
  · subst h3; exact look_some hb rfl
  by_cases h4 : op = 4
  · subst h4; exact look_some hb rfl
  by_cases h5 : op = 5
  · subst h5; exact look_some hb rfl
  by_cases h6 : op = 6
  · subst h6; exact look_some hb rfl
  by_cases h7 : op = 7
  · subst h7; exact look_some hb rfl
  by_cases h17 : op = 17
  · subst h17; exact look_some hb rfl
  by_cases h18 : op = 18
  · subst h18; exact look_some hb rfl
  by_cases h19 : op = 19
  · subst h19; exact look_some hb rfl
  by_cases h20 : op = 20
  · subst h20; exact look_some hb rfl
  rw [show recF op = .nilFunc by simp [recF, h2, h3, h4, h5, h6, h7], show goF op = .nilFunc by simp [goF, h17, h18, h19, h20]]
  refine look_none hb ?_
  rw [tbl10]
  have e2 : (op == 2) = false := by simpa using h2
  have e3 : (op == 3) = false := by simpa using h3
  have e4 : (op == 4) = false := by simpa using h4
  have e5 : (op == 5) = false := by simpa using h5
  have e6 : (op == 6) = false := by simpa using h6
  have e7 : (op == 7) = false := by simpa using h7
  have e17 : (op == 17) = false := by simpa using h17
  have e18 : (op == 18) = false := by simpa using h18
  have e19 : (op == 19) = false := by simpa using h19
  have e20 : (op == 20) = false := by simpa using h20
  simp only [Instr.findNow, Instr.sameNow, if_pos, e2, e3, e4, e5, e6, e7, e17, e18, e19, e20]
theorem look_map (op : Int) (W : World) : (Instr.lookup 177 (.map (some W.heap.size)) (.int .i64 op) false).run Tryz.prog (mapW W 10) = .ok (.agg #[recF op, goF op]) (mapW W 10) := look_op op _ _ (mapW_at W 10)
theorem Chg.mapW (W : World) (j : Nat) : Chg [] W (mapW W j) := (Chg.refl [] W).alloc _
end Go.Proofs.YtcjoinhngdfdmaaGreatDoor
end
section
namespace Go.Proofs.YtcjoinhngdfdmaaGreatDoor
open Go.RowKit
set_option linter.unusedVariables false
set_option maxHeartbeats 1000000

/-! ### The operations, one by one -/
theorem fjmp (x y : Int) (w : World) : Calls Tryz.prog 133 #[.int .u64 x, .int .u64 y] w fun e w' => e = .returned (.bool (true)) ∧ w = w' := by
  go_enter Tryz.func133, Tryz.ntmps133
  go_wp2
  go_ret
  exact ⟨rfl, rfl⟩
theorem feq (x y : Int) (w : World) : Calls Tryz.prog 134 #[.int .u64 x, .int .u64 y] w fun e w' => e = .returned (.bool (x == y)) ∧ w = w' := by
  go_enter Tryz.func134, Tryz.ntmps134
  go_wp2
  go_ret
  exact ⟨rfl, rfl⟩
theorem fne (x y : Int) (w : World) : Calls Tryz.prog 135 #[.int .u64 x, .int .u64 y] w fun e w' => e = .returned (.bool (x != y)) ∧ w = w' := by
  go_enter Tryz.func135, Tryz.ntmps135
  go_wp2
  go_ret
  exact ⟨rfl, rfl⟩
theorem flt (x y : Int) (w : World) : Calls Tryz.prog 136 #[.int .u64 x, .int .u64 y] w fun e w' => e = .returned (.bool (decide (x < y))) ∧ w = w' := by
  go_enter Tryz.func136, Tryz.ntmps136
  go_wp2
  go_ret
  exact ⟨rfl, rfl⟩
/-- What an operation reckons. -/
def doV (op b c : Int) : Int := if op = 2 then IntKind.u64.wrap (b + c) else if op = 3 then IntKind.u64.wrap (b - c) else if op = 4 then bits .and .u64 b c else if op = 5 then bits .xor .u64 b c else if op = 6 then IntKind.u64.wrap (b * 2 ^ (c % 64).toNat) else if op = 7 then b / 2 ^ (c % 64).toNat else 0
/-- Does a jump go? -/
def goV (op a b : Int) : Bool := if op = 17 then true else if op = 18 then a == b else if op = 19 then a != b else if op = 20 then decide (a < b) else false
/-- Is it a jump? -/
def goK (op : Int) : Bool := decide (op = 17 ∨ op = 18 ∨ op = 19 ∨ op = 20)
theorem field_g (r g : Value) (w : World) : (Instr.field 176 (.agg #[r, g]) 1).run Tryz.prog w = .ok g w := by kernel_rfl
theorem some_g (n : Nat) (w : World) : (binOp .eql 174 (.func (.func n) #[] #[]) .nilFunc).run Tryz.prog w = .ok (.bool false) w := by kernel_rfl
theorem nil_g (w : World) : (binOp .eql 174 .nilFunc .nilFunc).run Tryz.prog w = .ok (.bool true) w := by kernel_rfl
theorem ggo_any (op a b : Int) (w : World) : Calls Tryz.prog 80 #[.int .i64 op, .int .u64 a, .int .u64 b] w fun e w' => e = .returned (.tuple #[.bool (goV op a b), .bool (goK op)]) ∧ w' = mapW w 10 := by
  have hl := look_map op w
  by_cases h17 : op = 17
  · subst h17
    rw [show goF 17 = .func (.func 133) #[] #[] from rfl] at hl
    have hf := field_g (recF 17) (.func (.func 133) #[] #[]) (mapW w 10)
    have hn := some_g 133 (mapW w 10)
    go_enter Tryz.func80, Tryz.ntmps80
    go_wp2_with (first | (go_at_call 79; refine (ops_any _).mono ?_; rintro e w' ⟨rfl, rfl⟩) | (go_at_call 133; refine (fjmp _ _ _).mono ?_; rintro e w' ⟨rfl, rfl⟩))
    go_ret2
    exact ⟨rfl, rfl⟩
  by_cases h18 : op = 18
  · subst h18
    rw [show goF 18 = .func (.func 134) #[] #[] from rfl] at hl
    have hf := field_g (recF 18) (.func (.func 134) #[] #[]) (mapW w 10)
    have hn := some_g 134 (mapW w 10)
    go_enter Tryz.func80, Tryz.ntmps80
    go_wp2_with (first | (go_at_call 79; refine (ops_any _).mono ?_; rintro e w' ⟨rfl, rfl⟩) | (go_at_call 134; refine (feq _ _ _).mono ?_; rintro e w' ⟨rfl, rfl⟩))
    go_ret2
    exact ⟨rfl, rfl⟩
  by_cases h19 : op = 19
  · subst h19
    rw [show goF 19 = .func (.func 135) #[] #[] from rfl] at hl
    have hf := field_g (recF 19) (.func (.func 135) #[] #[]) (mapW w 10)
    have hn := some_g 135 (mapW w 10)
    go_enter Tryz.func80, Tryz.ntmps80
    go_wp2_with (first | (go_at_call 79; refine (ops_any _).mono ?_; rintro e w' ⟨rfl, rfl⟩) | (go_at_call 135; refine (fne _ _ _).mono ?_; rintro e w' ⟨rfl, rfl⟩))
    go_ret2
    exact ⟨rfl, rfl⟩
  by_cases h20 : op = 20
  · subst h20
    rw [show goF 20 = .func (.func 136) #[] #[] from rfl] at hl
    have hf := field_g (recF 20) (.func (.func 136) #[] #[]) (mapW w 10)
    have hn := some_g 136 (mapW w 10)
    go_enter Tryz.func80, Tryz.ntmps80
    go_wp2_with (first | (go_at_call 79; refine (ops_any _).mono ?_; rintro e w' ⟨rfl, rfl⟩) | (go_at_call 136; refine (flt _ _ _).mono ?_; rintro e w' ⟨rfl, rfl⟩))
    go_ret2
    exact ⟨rfl, rfl⟩
  rw [show goF op = .nilFunc by simp [goF, h17, h18, h19, h20]] at hl
  rw [show goV op a b = false by simp [goV, h17, h18, h19, h20], show goK op = false by simp [goK, h17, h18, h19, h20]]
  have hf := field_g (recF op) .nilFunc (mapW w 10)
  have hn := nil_g (mapW w 10)
  clear h17 h18 h19 h20
  go_enter Tryz.func80, Tryz.ntmps80
  go_wp2_with (go_at_call 79; refine (ops_any _).mono ?_; rintro e w' ⟨rfl, rfl⟩)
  go_ret2
  exact ⟨rfl, rfl⟩
theorem gsum_any (b k : Int) (w : World) : Calls Tryz.prog 82 #[.int .u64 b, .int .i64 k] w fun e w' => e = .returned (.int .u64 (IntKind.u64.wrap (b + IntKind.u64.wrap k))) ∧ w = w' := by
  go_enter Tryz.func82, Tryz.ntmps82
  go_wp2
  go_ret
  exact ⟨rfl, rfl⟩
end Go.Proofs.YtcjoinhngdfdmaaGreatDoor
end
section
namespace Go.Proofs.YtcjoinhngdfdmaaGreatDoor
open Go.RowKit
set_option linter.unusedVariables false
set_option maxHeartbeats 1000000

/-! ### Instructions as words -/
structure Ins where
  op : Int
  a : Int
  b : Int
  c : Int
  im : Int
deriving DecidableEq
def insZ : Ins := ⟨0, 0, 0, 0, 0⟩
def Ins.enc (i : Ins) : List Value := [.int .i64 i.op, .int .i64 i.a, .int .i64 i.b, .int .i64 i.c, .int .i64 i.im]
def insc (i : Ins) : Array Value := (Ins.enc i).toArray
def hasA (op : Int) : Bool := (decide (1 ≤ op) && decide (op ≤ 11)) || (decide (18 ≤ op) && decide (op ≤ 21))
def hasB (op : Int) : Bool := (decide (2 ≤ op) && decide (op ≤ 14)) || (decide (18 ≤ op) && decide (op ≤ 20))
def hasC (op : Int) : Bool := (decide (2 ≤ op) && decide (op ≤ 7)) || (decide (10 ≤ op) && decide (op ≤ 11))
def hasI (op : Int) : Bool := op == 1 || (decide (8 ≤ op) && decide (op ≤ 9)) || (decide (12 ≤ op) && decide (op ≤ 14)) || (decide (17 ≤ op) && decide (op ≤ 20))
def jumpB (op : Int) : Bool := decide (17 ≤ op) && decide (op ≤ 20)
def isOpB (op : Int) : Bool := decide (0 ≤ op) && decide (op ≤ 22)
def goodR (r : Int) (has : Bool) : Bool := if has then decide (0 ≤ r) && decide (r < 8) else r == 0
def goodMb (im : Int) (hi jb : Bool) : Bool := if hi then (if jb && decide (im < 0) then false else decide (-2147483648 ≤ im) && decide (im ≤ 2147483647)) else im == 0
def goodM (im : Int) (op : Int) : Bool := goodMb im (hasI op) (jumpB op)
def goodI (i : Ins) : Bool := isOpB i.op && (goodR i.a (hasA i.op) && (goodR i.b (hasB i.op) && (goodR i.c (hasC i.op) && goodM i.im i.op)))
/-- Its word. -/
def codeI (i : Ins) : Int := i.op + i.a * 256 + i.b * 4096 + i.c * 65536 + (i.im % 4294967296) * 4294967296
/-- What a word's parts are. -/
def imOf (h : Int) : Int := if h < 2147483648 then h else h - 4294967296
def insOf (u : Int) : Ins := ⟨u % 256, u / 256 % 16, u / 4096 % 16, u / 65536 % 16, imOf (u / 4294967296)⟩
def decB (u : Int) : Bool := goodI (insOf u) && codeI (insOf u) == u
def decI (u : Int) : Ins := if decB u then insOf u else insZ
theorem goodR_le {r : Int} {h : Bool} (g : goodR r h = true) : 0 ≤ r ∧ r < 8 := by
  unfold goodR at g
  split at g <;> simp at g <;> omega
theorem goodM_le {m op : Int} (g : goodM m op = true) : -2147483648 ≤ m ∧ m ≤ 2147483647 := by
  unfold goodM goodMb at g
  split at g
  · split at g
    · cases g
    · simp at g; omega
  · simp at g; omega
theorem goodI_parts {i : Ins} (g : goodI i = true) : (0 ≤ i.op ∧ i.op ≤ 22) ∧ (0 ≤ i.a ∧ i.a < 8) ∧ (0 ≤ i.b ∧ i.b < 8) ∧ (0 ≤ i.c ∧ i.c < 8) ∧ -2147483648 ≤ i.im ∧ i.im ≤ 2147483647 := by
  simp only [goodI, isOpB, Bool.and_eq_true, decide_eq_true_eq] at g
  obtain ⟨h1, h2, h3, h4, h5⟩ := g
  exact ⟨h1, goodR_le h2, goodR_le h3, goodR_le h4, goodM_le h5⟩
/-! ### Events -/
structure Ev where
  kd : Int
  co : Int
  li : Int
  wo : Int
  va : Int
deriving DecidableEq
def Ev.enc (e : Ev) : List Value := [.int .i64 e.kd, .int .i64 e.co, .int .i64 e.li, .int .i64 e.wo, .int .u64 e.va]
def evc (e : Ev) : Array Value := (Ev.enc e).toArray

/-! ### A core -/
structure Co where
  id : Int
  ru : Bool
  rg : List Int
  pr : List (Int × Bool)
  pc : Nat
  rm : Nat
  es : List Se
  wt : Nat
def regN (rg : List Int) (a : Nat) : Int := rg.getD a 0
def regA (Q : Co) (r : Int) : Int := regN Q.rg r.toNat
def setR (Q : Co) (r v : Int) : Co := { Q with rg := Q.rg.set r.toNat v }
def nextC (Q : Co) : Co := { Q with pc := Q.pc + 1 }
def stopC (Q : Co) : Co := { Q with ru := false }
def evC (Q : Co) (kd li wo va : Int) : Ev := ⟨kd, Q.id, li, wo, va⟩
def settledB (Q : Co) : Bool := Q.es.isEmpty && Q.wt == 0
structure Did13 where
  S : Mst
  Q : Co
  ev : List Ev
def addrI (Q : Co) (i : Ins) : Int := IntKind.u64.wrap (regA Q i.b + IntKind.u64.wrap i.im)
def atB (li ad : Int) : Bool := ad % 8 == 0 && decide (ad / 64 < li)
def lineOf (ad : Int) : Int := ad / 64
def wordOf (ad : Int) : Int := ad % 64 / 8
def loadC (c : Cg) (S : Mst) (Q : Co) (a li wo : Int) : Did13 :=
  match fdO Q.es li wo with
  | some e => ⟨S, nextC (setR Q a e.va), [evC Q 2 li wo e.va]⟩
  | none => if (loadM c S Q.id li wo).2.hit then ⟨(loadM c S Q.id li wo).1, nextC (setR Q a (loadM c S Q.id li wo).2.v), [evC Q 1 li wo (loadM c S Q.id li wo).2.v]⟩ else ⟨(loadM c S Q.id li wo).1, Q, []⟩
def putC (S : Mst) (Q : Co) (kd : Int) (e : Se) : Did13 :=
  if sbV Q.rm Q.es e = 0 then ⟨S, nextC { Q with es := sbE Q.rm Q.es e }, [evC Q kd e.li e.wo e.va]⟩ else ⟨S, Q, []⟩
/-- What Cas or Xadd stores where old stood, and whether it does. -/
def chgV (Q : Co) (i : Ins) (old : Int) : Int := if i.op = 10 then regA Q i.c else IntKind.u64.wrap (old + regA Q i.c)
def chgB (Q : Co) (i : Ins) (old : Int) : Bool := if i.op = 10 then old == regA Q i.a else true
def changeC (c : Cg) (S : Mst) (Q : Co) (i : Ins) (li wo : Int) : Did13 :=
  if settledB Q then
    if (reachM c S Q.id li).2.hit then
      if chgB Q i (loadM c (reachM c S Q.id li).1 Q.id li wo).2.v then
        ⟨(storeM c (loadM c (reachM c S Q.id li).1 Q.id li wo).1 Q.id li wo (chgV Q i (loadM c (reachM c S Q.id li).1 Q.id li wo).2.v)).1, nextC (setR Q i.a (loadM c (reachM c S Q.id li).1 Q.id li wo).2.v), [evC Q 4 li wo (loadM c (reachM c S Q.id li).1 Q.id li wo).2.v, evC Q 3 li wo (chgV Q i (loadM c (reachM c S Q.id li).1 Q.id li wo).2.v)]⟩
      else ⟨(loadM c (reachM c S Q.id li).1 Q.id li wo).1, nextC (setR Q i.a (loadM c (reachM c S Q.id li).1 Q.id li wo).2.v), [evC Q 4 li wo (loadM c (reachM c S Q.id li).1 Q.id li wo).2.v]⟩
    else ⟨(reachM c S Q.id li).1, Q, []⟩
  else ⟨S, Q, []⟩
def accessC (c : Cg) (S : Mst) (Q : Co) (i : Ins) : Did13 :=
  if atB c.li (addrI Q i) then
    if i.op = 8 then loadC c S Q i.a (lineOf (addrI Q i)) (wordOf (addrI Q i))
    else if i.op = 9 then putC S Q 12 ⟨9, lineOf (addrI Q i), wordOf (addrI Q i), regA Q i.a, false⟩
    else if i.op = 10 ∨ i.op = 11 then changeC c S Q i (lineOf (addrI Q i)) (wordOf (addrI Q i))
    else putC S Q 14 ⟨i.op, lineOf (addrI Q i), 0, 0, false⟩
  else ⟨S, stopC Q, [evC Q 10 0 0 0]⟩
def insC (c : Cg) (S : Mst) (Q : Co) (i : Ins) : Did13 :=
  if i.op = 0 then ⟨S, nextC Q, []⟩
  else if i.op = 1 then ⟨S, nextC (setR Q i.a (IntKind.u64.wrap i.im)), []⟩
  else if i.op ≤ 7 then ⟨S, nextC (setR Q i.a (doV i.op (regA Q i.b) (regA Q i.c))), []⟩
  else if 17 ≤ i.op ∧ i.op ≤ 20 then ⟨S, (if goV i.op (regA Q i.a) (regA Q i.b) then { Q with pc := i.im.toNat } else nextC Q), []⟩
  else if i.op = 21 then ⟨S, nextC Q, [evC Q 8 0 0 (regA Q i.a)]⟩
  else if i.op = 22 then ⟨S, stopC Q, [evC Q 9 0 0 0]⟩
  else if i.op = 15 ∨ i.op = 16 then (if settledB Q then ⟨S, nextC Q, [evC Q 7 0 0 0]⟩ else ⟨S, Q, []⟩)
  else accessC c S Q i
def readC (Q : Co) (u : Int) : Co := { Q with pr := Q.pr.set Q.pc (u, true) }
def execC (c : Cg) (S : Mst) (Q : Co) : Did13 :=
  if Q.ru then
    match Q.pr[Q.pc]? with
    | none => ⟨S, stopC Q, [evC Q 10 0 0 0]⟩
    | some (u, _) => if decB u then insC c S (readC Q u) (insOf u) else ⟨S, stopC (readC Q u), [evC Q 10 0 0 0]⟩
  else ⟨S, Q, []⟩
end Go.Proofs.YtcjoinhngdfdmaaGreatDoor
end
section
namespace Go.Proofs.YtcjoinhngdfdmaaGreatDoor
open Go.RowKit
set_option linter.unusedVariables false
set_option maxHeartbeats 1000000

/-! ### An instruction -/
theorem Ins.len (i : Ins) : (Ins.enc i).length = 5 := rfl
theorem Ins.one (i : Ins) : ∀ v ∈ Ins.enc i, v.oneCell' = true := by
  intro v hv
  simp only [Ins.enc, List.mem_cons, List.not_mem_nil, or_false] at hv
  rcases hv with rfl | rfl | rfl | rfl | rfl <;> rfl
theorem insc_size (i : Ins) : (insc i).size = 5 := by simp [insc, Ins.enc]
theorem insc_one (i : Ins) : allOne (insc i) := allOne_list _ (List.all_eq_true.2 (Ins.one i))
theorem insc_op (i : Ins) : (insc i)[0]? = some (.int .i64 i.op) := rfl
theorem insc_a (i : Ins) : (insc i)[1]? = some (.int .i64 i.a) := rfl
theorem insc_b (i : Ins) : (insc i)[2]? = some (.int .i64 i.b) := rfl
theorem insc_c (i : Ins) : (insc i)[3]? = some (.int .i64 i.c) := rfl
theorem insc_im (i : Ins) : (insc i)[4]? = some (.int .i64 i.im) := rfl
theorem insc_lit (o a b c m : Int) : (#[.int .i64 o, .int .i64 a, .int .i64 b, .int .i64 c, .int .i64 m] : Array Value) = insc ⟨o, a, b, c, m⟩ := rfl
theorem insc_z : insc ⟨0, 0, 0, 0, 0⟩ = insc insZ := rfl
theorem insc_set0 (i : Ins) (v : Int) : (insc i).setIfInBounds 0 (.int .i64 v) = insc ⟨v, i.a, i.b, i.c, i.im⟩ := by simp [insc, Ins.enc]
theorem insc_set1 (i : Ins) (v : Int) : (insc i).setIfInBounds 1 (.int .i64 v) = insc ⟨i.op, v, i.b, i.c, i.im⟩ := by simp [insc, Ins.enc]
theorem insc_set2 (i : Ins) (v : Int) : (insc i).setIfInBounds 2 (.int .i64 v) = insc ⟨i.op, i.a, v, i.c, i.im⟩ := by simp [insc, Ins.enc]
theorem insc_set3 (i : Ins) (v : Int) : (insc i).setIfInBounds 3 (.int .i64 v) = insc ⟨i.op, i.a, i.b, v, i.im⟩ := by simp [insc, Ins.enc]
theorem insc_set4 (i : Ins) (v : Int) : (insc i).setIfInBounds 4 (.int .i64 v) = insc ⟨i.op, i.a, i.b, i.c, v⟩ := by simp [insc, Ins.enc]
theorem insZ_op : insZ.op = 0 := rfl
theorem insZ_a : insZ.a = 0 := rfl
theorem insZ_b : insZ.b = 0 := rfl
theorem insZ_c : insZ.c = 0 := rfl
theorem insZ_im : insZ.im = 0 := rfl
theorem insc_ne (i : Ins) : (insc i = #[]) = False := eq_false (fun h => by have := congrArg Array.size h; rw [insc_size] at this; cases this)
theorem fold_insc (C : Array Value) (i : Ins) (h : C.size = 5) : Array.foldl (fun cs y => cs.setIfInBounds y.snd y.fst) C (insc i).zipIdx 0 5 = insc i := fold_all _ _ _ (insc_size i) h

/-! ### An event -/
def evZ : Ev := ⟨0, 0, 0, 0, 0⟩
theorem Ev.len (e : Ev) : (Ev.enc e).length = 5 := rfl
theorem Ev.one (e : Ev) : ∀ v ∈ Ev.enc e, v.oneCell' = true := by
  intro v hv
  simp only [Ev.enc, List.mem_cons, List.not_mem_nil, or_false] at hv
  rcases hv with rfl | rfl | rfl | rfl | rfl <;> rfl
theorem evc_size (e : Ev) : (evc e).size = 5 := by simp [evc, Ev.enc]
theorem evc_one (e : Ev) : allOne (evc e) := allOne_list _ (List.all_eq_true.2 (Ev.one e))
theorem evc_kd (e : Ev) : (evc e)[0]? = some (.int .i64 e.kd) := rfl
theorem evc_co (e : Ev) : (evc e)[1]? = some (.int .i64 e.co) := rfl
theorem evc_li (e : Ev) : (evc e)[2]? = some (.int .i64 e.li) := rfl
theorem evc_wo (e : Ev) : (evc e)[3]? = some (.int .i64 e.wo) := rfl
theorem evc_va (e : Ev) : (evc e)[4]? = some (.int .u64 e.va) := rfl
theorem evc_lit (k c l o v : Int) : (#[.int .i64 k, .int .i64 c, .int .i64 l, .int .i64 o, .int .u64 v] : Array Value) = evc ⟨k, c, l, o, v⟩ := rfl
theorem evc_z : evc ⟨0, 0, 0, 0, 0⟩ = evc evZ := rfl
theorem evc_set0 (e : Ev) (v : Int) : (evc e).setIfInBounds 0 (.int .i64 v) = evc ⟨v, e.co, e.li, e.wo, e.va⟩ := by simp [evc, Ev.enc]
theorem evc_set1 (e : Ev) (v : Int) : (evc e).setIfInBounds 1 (.int .i64 v) = evc ⟨e.kd, v, e.li, e.wo, e.va⟩ := by simp [evc, Ev.enc]
theorem evc_set2 (e : Ev) (v : Int) : (evc e).setIfInBounds 2 (.int .i64 v) = evc ⟨e.kd, e.co, v, e.wo, e.va⟩ := by simp [evc, Ev.enc]
theorem evc_set3 (e : Ev) (v : Int) : (evc e).setIfInBounds 3 (.int .i64 v) = evc ⟨e.kd, e.co, e.li, v, e.va⟩ := by simp [evc, Ev.enc]
theorem evc_set4 (e : Ev) (v : Int) : (evc e).setIfInBounds 4 (.int .u64 v) = evc ⟨e.kd, e.co, e.li, e.wo, v⟩ := by simp [evc, Ev.enc]
theorem evZ_kd : evZ.kd = 0 := rfl
theorem evZ_co : evZ.co = 0 := rfl
theorem evZ_li : evZ.li = 0 := rfl
theorem evZ_wo : evZ.wo = 0 := rfl
theorem evZ_va : evZ.va = 0 := rfl
theorem evc_ne (e : Ev) : (evc e = #[]) = False := eq_false (fun h => by have := congrArg Array.size h; rw [evc_size] at this; cases this)
theorem fold_evc (C : Array Value) (e : Ev) (h : C.size = 5) : Array.foldl (fun cs y => cs.setIfInBounds y.snd y.fst) C (evc e).zipIdx 0 5 = evc e := fold_all _ _ _ (evc_size e) h
theorem sq_one_ev (e : Ev) : sq Ev.enc [e] [] = evc e := by simp [sq, cat, evc]

/-! ### A step: a word, read or not -/
def stI (x : Int × Bool) : Ins := if x.2 then decI x.1 else insZ
def stG (x : Int × Bool) : Bool := x.2 && decB x.1
def stD (x : Int × Bool) : Int := if x.2 then 1 else 0
/-! ### A core's own cells -/
def coc (id : Int) (ru : Bool) (rg : List Int) (pb np : Nat) (pc : Int) (qb : Nat) (wt : Int) : Array Value :=
  (.int .i64 id :: .bool ru :: (rg.map (Value.int .u64) ++ [.slice (some ⟨pb, 0, none⟩) np np, .int .i64 pc, .pointer (some ⟨qb, 0, none⟩), .int .i64 wt])).toArray
section
variable {rg : List Int} (h8 : rg.length = 8) (id : Int) (ru : Bool) (pb np : Nat) (pc : Int) (qb : Nat) (wt : Int)
theorem coc_id : (coc id ru rg pb np pc qb wt)[0]? = some (.int .i64 id) := by simp [coc]
theorem coc_ru : (coc id ru rg pb np pc qb wt)[1]? = some (.bool ru) := by simp [coc]
theorem coc_setRu (v : Bool) : (coc id ru rg pb np pc qb wt).setIfInBounds 1 (.bool v) = coc id v rg pb np pc qb wt := by simp [coc]
theorem coc_one : allOne (coc id ru rg pb np pc qb wt) := by
  refine allOne_list _ (List.all_eq_true.2 fun v hv => ?_)
  simp only [List.mem_cons, List.mem_append, List.mem_map, List.not_mem_nil, or_false] at hv
  rcases hv with rfl | rfl | ⟨_, _, rfl⟩ | rfl | rfl | rfl | rfl <;> rfl
include h8
theorem coc_size : (coc id ru rg pb np pc qb wt).size = 14 := by simp [coc, h8]
theorem coc_reg {a : Nat} (ha : a < 8) : (coc id ru rg pb np pc qb wt)[2 + a]? = some (.int .u64 (regN rg a)) := by
  unfold coc regN
  rw [Nat.add_comm 2, List.getElem?_toArray, List.getElem?_cons_succ, List.getElem?_cons_succ, List.getElem?_append_left (by simp [h8]; exact ha), List.getElem?_map]
  rw [List.getElem?_eq_getElem (by omega), List.getD_eq_getElem?_getD, List.getElem?_eq_getElem (by omega)]
  rfl
theorem coc_pr : (coc id ru rg pb np pc qb wt)[10]? = some (.slice (some ⟨pb, 0, none⟩) np np) := by
  unfold coc
  rw [List.getElem?_toArray, List.getElem?_cons_succ, List.getElem?_cons_succ, List.getElem?_append_right (by simp [h8])]
  simp [h8]
theorem coc_pc : (coc id ru rg pb np pc qb wt)[11]? = some (.int .i64 pc) := by
  unfold coc
  rw [List.getElem?_toArray, List.getElem?_cons_succ, List.getElem?_cons_succ, List.getElem?_append_right (by simp [h8])]
  simp [h8]
theorem coc_qb : (coc id ru rg pb np pc qb wt)[12]? = some (.pointer (some ⟨qb, 0, none⟩)) := by
  unfold coc
  rw [List.getElem?_toArray, List.getElem?_cons_succ, List.getElem?_cons_succ, List.getElem?_append_right (by simp [h8])]
  simp [h8]
theorem coc_wt : (coc id ru rg pb np pc qb wt)[13]? = some (.int .i64 wt) := by
  unfold coc
  rw [List.getElem?_toArray, List.getElem?_cons_succ, List.getElem?_cons_succ, List.getElem?_append_right (by simp [h8])]
  simp [h8]
theorem coc_setPc (v : Int) : (coc id ru rg pb np pc qb wt).setIfInBounds 11 (.int .i64 v) = coc id ru rg pb np v qb wt := by
  unfold coc
  rw [List.setIfInBounds_toArray, List.set_cons_succ, List.set_cons_succ, List.set_append_right _ _ (by simp [h8])]
  simp [h8]
theorem coc_setWt (v : Int) : (coc id ru rg pb np pc qb wt).setIfInBounds 13 (.int .i64 v) = coc id ru rg pb np pc qb v := by
  unfold coc
  rw [List.setIfInBounds_toArray, List.set_cons_succ, List.set_cons_succ, List.set_append_right _ _ (by simp [h8])]
  simp [h8]
theorem coc_setReg {a : Nat} (ha : a < 8) (v : Int) : (coc id ru rg pb np pc qb wt).setIfInBounds (2 + a) (.int .u64 v) = coc id ru (rg.set a v) pb np pc qb wt := by
  unfold coc
  rw [Nat.add_comm 2, List.setIfInBounds_toArray, List.set_cons_succ, List.set_cons_succ, List.set_append_left _ _ (by simp [h8]; exact ha), List.map_set]
theorem coc_regs (t : TypeId) (f : Nat × Nat) : rowPart (some (.cells (coc id ru rg pb np pc qb wt) t f)) 2 8 = vs rg := by
  rw [rowPart_some]
  unfold coc vs
  rw [List.toList_toArray, List.drop_succ_cons, List.drop_succ_cons, List.drop_zero, List.take_append_of_le_length (by simp [h8]), List.take_of_length_le (by simp [h8])]
theorem coc_regsIn (t : TypeId) (f : Nat × Nat) : rowIn (some (.cells (coc id ru rg pb np pc qb wt) t f)) 2 8 = true := by
  rw [rowIn_some, coc_size h8]; exact decide_eq_true (show 2 + 8 ≤ 14 by omega)
end
end Go.Proofs.YtcjoinhngdfdmaaGreatDoor
end
section
namespace Go.Proofs.YtcjoinhngdfdmaaGreatDoor
open Go.RowKit
set_option linter.unusedVariables false
set_option maxHeartbeats 1000000


theorem wideIns : Wide Tryz.prog 33 5 := ⟨⟨_, Tryz.underlying33, by rfl⟩, by kernel_rfl⟩
theorem loadIns (x : Value) : Instr.loadAt 33 x = loadS 33 5 x := rfl
theorem storeIns (x y : Value) : Instr.storeAt 33 x y = storeS 33 5 x y := rfl
/-- What an operation has, as cells. -/
def pts (a b c i j : Bool) : Array Value := #[.bool a, .bool b, .bool c, .bool i, .bool j]
theorem pts_lit (a b c i j : Bool) : (#[.bool a, .bool b, .bool c, .bool i, .bool j] : Array Value) = pts a b c i j := rfl
theorem pts_size (a b c i j : Bool) : (pts a b c i j).size = 5 := by simp [pts]
theorem pts_one (a b c i j : Bool) : allOne (pts a b c i j) := by simp [allOne, pts, Value.oneCell']
theorem pts_0 (a b c i j : Bool) : (pts a b c i j)[0]? = some (.bool a) := rfl
theorem pts_1 (a b c i j : Bool) : (pts a b c i j)[1]? = some (.bool b) := rfl
theorem pts_2 (a b c i j : Bool) : (pts a b c i j)[2]? = some (.bool c) := rfl
theorem pts_3 (a b c i j : Bool) : (pts a b c i j)[3]? = some (.bool i) := rfl
theorem pts_4 (a b c i j : Bool) : (pts a b c i j)[4]? = some (.bool j) := rfl
theorem pts_ne (a b c i j : Bool) : (pts a b c i j = #[]) = False := eq_false (fun h => by have := congrArg Array.size h; rw [pts_size] at this; cases this)
theorem pts_set0 (a b c i j v : Bool) : (pts a b c i j).setIfInBounds 0 (.bool v) = pts v b c i j := by simp [pts]
theorem pts_set1 (a b c i j v : Bool) : (pts a b c i j).setIfInBounds 1 (.bool v) = pts a v c i j := by simp [pts]
theorem pts_set2 (a b c i j v : Bool) : (pts a b c i j).setIfInBounds 2 (.bool v) = pts a b v i j := by simp [pts]
theorem pts_set3 (a b c i j v : Bool) : (pts a b c i j).setIfInBounds 3 (.bool v) = pts a b c v j := by simp [pts]
theorem pts_set4 (a b c i j v : Bool) : (pts a b c i j).setIfInBounds 4 (.bool v) = pts a b c i v := by simp [pts]
theorem fold_pts (C : Array Value) (a b c i j : Bool) (h : C.size = 5) : Array.foldl (fun cs y => cs.setIfInBounds y.snd y.fst) C (pts a b c i j).zipIdx 0 5 = pts a b c i j := fold_all _ _ _ (pts_size a b c i j) h
theorem widePts : Wide Tryz.prog 293 5 := ⟨⟨_, Tryz.underlying293, by rfl⟩, by kernel_rfl⟩
theorem loadPts (x : Value) : Instr.loadAt 293 x = loadS 293 5 x := rfl
theorem storePts (x y : Value) : Instr.storeAt 293 x y = storeS 293 5 x y := rfl
attribute [local go_sem ↓] cell_row frozen_row heap_drew heap_drewN heap_alloc heap_past heap_setCell heap_putRow loadIns storeIns loadPts storePts insc_op insc_a insc_b insc_c insc_im pts_0 pts_1 pts_2 pts_3 pts_4
attribute [local go_sem] rowCell_some rowFrozen_some rowHas_some rowIn_some rowPart_full rowPart_lit rowPut_full rowPut_lit rowSet_some size_putRow run_loadS run_storeS loadW_at storeW_at fit_all fit_le one_int one_bool one_pointer one_slice allOne_list putRow_new ne_size1 ne_size2 ne_size3 ne_size4 wideIns widePts insc_size insc_one insc_ne insc_lit insc_z fold_insc insc_set0 insc_set1 insc_set2 insc_set3 insc_set4 pts_lit pts_size pts_one pts_ne pts_set0 pts_set1 pts_set2 pts_set3 pts_set4 fold_pts
attribute [local simp ↓] heap_drew heap_drewN heap_alloc heap_past heap_setCell heap_putRow
attribute [local simp] rowCell_some rowFrozen_some rowHas_some rowIn_some rowPart_full rowPart_lit rowPut_full rowPut_lit rowSet_some size_putRow fit_all putRow_new ne_size1 ne_size2 ne_size3 ne_size4 insc_size pts_size fit_le
/-- Closes what a call leaves as it was. -/
theorem iisop (op : Int) (w : World) : Calls Tryz.prog 212 #[.int .i64 op] w fun e w' => e = .returned (.bool (isOpB op)) ∧ w = w' := by
  unfold isOpB
  cases h1 : decide (0 ≤ op)
  · go_enter Tryz.func212, Tryz.ntmps212
    go_wp2
    go_ret
    exact ⟨rfl, rfl⟩
  · go_enter Tryz.func212, Tryz.ntmps212
    go_wp2
    go_ret
    exact ⟨rfl, rfl⟩
theorem igoodReg (r : Int) (h : Bool) (w : World) : Calls Tryz.prog 214 #[.int .i64 r, .bool h] w fun e w' => e = .returned (.bool (goodR r h)) ∧ w = w' := by
  cases h
  · rw [show goodR r false = (r == 0) from rfl]
    go_enter Tryz.func214, Tryz.ntmps214
    go_wp2
    go_ret
    exact ⟨rfl, rfl⟩
  · rw [show goodR r true = (decide (0 ≤ r) && decide (r < 8)) from rfl]
    cases h1 : decide (0 ≤ r)
    · go_enter Tryz.func214, Tryz.ntmps214
      go_wp2
      go_ret
      exact ⟨rfl, rfl⟩
    · go_enter Tryz.func214, Tryz.ntmps214
      go_wp2
      go_ret
      exact ⟨rfl, rfl⟩
theorem igoodImm (m : Int) (a b c i j : Bool) (w : World) : Calls Tryz.prog 215 #[.int .i64 m, .agg (pts a b c i j)] w fun e w' => e = .returned (.bool (goodMb m i j)) ∧ Chg [] w w' := by
  have hc : ∀ x, (w.alloc (.cells (pts a b c i j) 293)) = x → Chg [] w x := fun x h => h ▸ (Chg.refl [] w).alloc _
  cases i
  · rw [show goodMb m false j = (m == 0) from rfl]
    go_enter Tryz.func215, Tryz.ntmps215
    go_wp2
    go_ret
    exact ⟨rfl, hc _ rfl⟩
  cases j
  · rw [show goodMb m true false = (decide (-2147483648 ≤ m) && decide (m ≤ 2147483647)) from rfl]
    cases h1 : decide (-2147483648 ≤ m)
    · go_enter Tryz.func215, Tryz.ntmps215
      go_wp2
      go_ret
      exact ⟨rfl, hc _ rfl⟩
    · go_enter Tryz.func215, Tryz.ntmps215
      go_wp2
      go_ret
      exact ⟨rfl, hc _ rfl⟩
  · cases h0 : decide (m < 0)
    · rw [show goodMb m true true = (decide (-2147483648 ≤ m) && decide (m ≤ 2147483647)) by unfold goodMb; rw [h0]; rfl]
      cases h1 : decide (-2147483648 ≤ m)
      · go_enter Tryz.func215, Tryz.ntmps215
        go_wp2
        go_ret
        exact ⟨rfl, hc _ rfl⟩
      · go_enter Tryz.func215, Tryz.ntmps215
        go_wp2
        go_ret
        exact ⟨rfl, hc _ rfl⟩
    · rw [show goodMb m true true = false by unfold goodMb; rw [h0]; rfl]
      go_enter Tryz.func215, Tryz.ntmps215
      go_wp2
      go_ret
      exact ⟨rfl, hc _ rfl⟩
theorem results_pts {fn : Func} {p : Tmp} (h : fn.results = #[.cell p 293]) (tmps : Array Value) (w : World) (q : Nat) (a b c i j : Bool) (fr : Nat × Nat)
    (hp : tmps.getD p undef = .pointer (some ⟨q, 0, none⟩)) (hb : w.heap[q]? = some (.cells (pts a b c i j) 293 fr)) : (results fn tmps).run Tryz.prog w = .ok (.agg (pts a b c i j)) w := by
  have hp' : tmps[p]?.getD undef = .pointer (some ⟨q, 0, none⟩) := by simpa using hp
  have := run_loadVar_row (P := Tryz.prog) w q 293 293 (pts a b c i j) fr _ hb Tryz.underlying293 rfl (by rw [pts_size]; kernel_rfl)
  simp [results, h, hp', asAddr, this]
theorem iparts_at (op : Int) (a b c i j : Bool) (h0 : 0 ≤ op) (h22 : op ≤ 22) (ha : hasA op = a) (hb : hasB op = b) (hc : hasC op = c) (hi : hasI op = i) (hj : jumpB op = j) (w : World) : Calls Tryz.prog 213 #[.int .i64 op] w fun e w' => e = .returned (.agg (pts a b c i j)) ∧ Chg [] w w' := by
  have h : op = 0 ∨ op = 1 ∨ op = 2 ∨ op = 3 ∨ op = 4 ∨ op = 5 ∨ op = 6 ∨ op = 7 ∨ op = 8 ∨ op = 9 ∨ op = 10 ∨ op = 11 ∨ op = 12 ∨ op = 13 ∨ op = 14 ∨ op = 15 ∨ op = 16 ∨ op = 17 ∨ op = 18 ∨ op = 19 ∨ op = 20 ∨ op = 21 ∨ op = 22 := by omega
  clear h0 h22
  rcases h with rfl | rfl | rfl | rfl | rfl | rfl | rfl | rfl | rfl | rfl | rfl | rfl | rfl | rfl | rfl | rfl | rfl | rfl | rfl | rfl | rfl | rfl | rfl
  all_goals
    subst ha hb hc hi hj
    go_enter Tryz.func213, Tryz.ntmps213
    try dsimp only [List.append]
    go_wp2_with fail
    refine bodyPost_ret (v := .agg (pts _ _ _ _ _)) (results_pts (by rfl) _ _ w.heap.size _ _ _ _ _ (0, 0) (by rfl) (by simp; try rfl)) (by rfl) ⟨rfl, (Chg.refl [] w).alloc _⟩
end Go.Proofs.YtcjoinhngdfdmaaGreatDoor
end
section
namespace Go.Proofs.YtcjoinhngdfdmaaGreatDoor
open Go.RowKit
set_option linter.unusedVariables false
set_option maxHeartbeats 1000000


attribute [local go_sem ↓] cell_row frozen_row heap_drew heap_drewN heap_alloc heap_past heap_setCell heap_putRow loadIns storeIns loadPts storePts insc_op insc_a insc_b insc_c insc_im pts_0 pts_1 pts_2 pts_3 pts_4
attribute [local go_sem] rowCell_some rowFrozen_some rowHas_some rowIn_some rowPart_full rowPart_lit rowPut_full rowPut_lit rowSet_some size_putRow run_loadS run_storeS loadW_at storeW_at fit_all fit_le one_int one_bool one_pointer one_slice allOne_list putRow_new ne_size1 ne_size2 ne_size3 ne_size4 wideIns widePts insc_size insc_one insc_ne insc_lit insc_z fold_insc insc_set0 insc_set1 insc_set2 insc_set3 insc_set4 pts_lit pts_size pts_one pts_ne pts_set0 pts_set1 pts_set2 pts_set3 pts_set4 fold_pts
attribute [local simp ↓] heap_drew heap_drewN heap_alloc heap_past heap_setCell heap_putRow
attribute [local simp] rowCell_some rowFrozen_some rowHas_some rowIn_some rowPart_full rowPart_lit rowPut_full rowPut_lit rowSet_some size_putRow fit_all putRow_new ne_size1 ne_size2 ne_size3 ne_size4 insc_size pts_size fit_le
theorem igood_any (i : Ins) (w : World) : Calls Tryz.prog 199 #[.agg (insc i)] w fun e w' => e = .returned (.bool (goodI i)) ∧ Chg [] w w' := by
  have hx : (w.alloc (.cells (insc i) 33)).heap[w.heap.size]? = some (.cells (insc i) 33 (0, 0)) := by simp
  have HC := Lib.hid ((Chg.refl [] w).alloc (.cells (insc i) 33))
  unfold goodI
  cases h0 : isOpB i.op
  · go_enter Tryz.func199, Tryz.ntmps199
    go_wp2_with (go_at_call 212; refine (iisop _ _).mono ?_; rintro e w' ⟨rfl, rfl⟩)
    go_ret
    exact ⟨rfl, HC.out⟩
  have hr : 0 ≤ i.op ∧ i.op ≤ 22 := by unfold isOpB at h0; simp at h0; exact h0
  have HR := Lib.hid hr
  clear hr
  have h1 : goodR i.a (hasA i.op) = true ∨ goodR i.a (hasA i.op) = false := by cases goodR i.a (hasA i.op) <;> simp
  have h2 : goodR i.b (hasB i.op) = true ∨ goodR i.b (hasB i.op) = false := by cases goodR i.b (hasB i.op) <;> simp
  have h3 : goodR i.c (hasC i.op) = true ∨ goodR i.c (hasC i.op) = false := by cases goodR i.c (hasC i.op) <;> simp
  unfold goodM
  generalize ha : hasA i.op = a at *
  generalize hb : hasB i.op = b at *
  generalize hc : hasC i.op = c at *
  generalize hi : hasI i.op = d at *
  generalize hj : jumpB i.op = j at *
  have HP := Lib.hid (fun w => iparts_at i.op a b c d j HR.out.1 HR.out.2 ha hb hc hi hj w)
  clear ha hb hc hi hj
  rcases h1 with h1 | h1
  · rcases h2 with h2 | h2
    · rcases h3 with h3 | h3
      · rw [h1, h2, h3]
        show Calls _ _ _ _ fun e w' => e = .returned (.bool (goodMb i.im d j)) ∧ _
        have G0 := Lib.hid (fun w => igoodReg i.a a w)
        rw [h1] at G0
        have G1 := Lib.hid (fun w => igoodReg i.b b w)
        rw [h2] at G1
        have G2 := Lib.hid (fun w => igoodReg i.c c w)
        rw [h3] at G2
        clear h1 h2 h3
        go_enter Tryz.func199, Tryz.ntmps199
        go_wp2_with (go_at_call 212; refine (iisop _ _).mono ?_; rintro e w' ⟨rfl, rfl⟩)
        generalize hw1 : w.alloc (.cells (insc i) 33) = w1 at hx HC ⊢
        generalize hz : w.heap.size = p at hx ⊢
        refine (HP.out w1).mono ?_
        rintro e w2 ⟨rfl, c2⟩
        have hx2 := c2.keep hx (by simp)
        have HC2 := Lib.hid (HC.out.trans c2)
        have ox := old hx2
        have hy : (w2.alloc (.cells (pts a b c d j) 293)).heap[w2.heap.size]? = some (.cells (pts a b c d j) 293 (0, 0)) := by simp
        clear c2 hx hw1 hz
        go_wp2_with (first | (go_at_call 214; (with_reducible refine (G0.out _).mono ?_); rintro e w' ⟨rfl, rfl⟩) | (go_at_call 214; (with_reducible refine (G1.out _).mono ?_); rintro e w' ⟨rfl, rfl⟩) | (go_at_call 214; (with_reducible refine (G2.out _).mono ?_); rintro e w' ⟨rfl, rfl⟩) | (go_at_call 215; refine (igoodImm _ _ _ _ _ _ _).mono ?_; rintro e w3 ⟨rfl, c3⟩))
        go_ret
        exact ⟨rfl, (HC2.out.alloc _).trans c3⟩
      · rw [h1, h2, h3]
        show Calls _ _ _ _ fun e w' => e = .returned (.bool (false)) ∧ _
        have G0 := Lib.hid (fun w => igoodReg i.a a w)
        rw [h1] at G0
        have G1 := Lib.hid (fun w => igoodReg i.b b w)
        rw [h2] at G1
        have G2 := Lib.hid (fun w => igoodReg i.c c w)
        rw [h3] at G2
        clear h1 h2 h3
        go_enter Tryz.func199, Tryz.ntmps199
        go_wp2_with (go_at_call 212; refine (iisop _ _).mono ?_; rintro e w' ⟨rfl, rfl⟩)
        generalize hw1 : w.alloc (.cells (insc i) 33) = w1 at hx HC ⊢
        generalize hz : w.heap.size = p at hx ⊢
        refine (HP.out w1).mono ?_
        rintro e w2 ⟨rfl, c2⟩
        have hx2 := c2.keep hx (by simp)
        have HC2 := Lib.hid (HC.out.trans c2)
        have ox := old hx2
        have hy : (w2.alloc (.cells (pts a b c d j) 293)).heap[w2.heap.size]? = some (.cells (pts a b c d j) 293 (0, 0)) := by simp
        clear c2 hx hw1 hz
        go_wp2_with (first | (go_at_call 214; (with_reducible refine (G0.out _).mono ?_); rintro e w' ⟨rfl, rfl⟩) | (go_at_call 214; (with_reducible refine (G1.out _).mono ?_); rintro e w' ⟨rfl, rfl⟩) | (go_at_call 214; (with_reducible refine (G2.out _).mono ?_); rintro e w' ⟨rfl, rfl⟩))
        go_ret
        exact ⟨rfl, HC2.out.alloc _⟩
    · rw [h1, h2]
      show Calls _ _ _ _ fun e w' => e = .returned (.bool (false)) ∧ _
      have G0 := Lib.hid (fun w => igoodReg i.a a w)
      rw [h1] at G0
      have G1 := Lib.hid (fun w => igoodReg i.b b w)
      rw [h2] at G1
      clear h1 h2 h3
      go_enter Tryz.func199, Tryz.ntmps199
      go_wp2_with (go_at_call 212; refine (iisop _ _).mono ?_; rintro e w' ⟨rfl, rfl⟩)
      generalize hw1 : w.alloc (.cells (insc i) 33) = w1 at hx HC ⊢
      generalize hz : w.heap.size = p at hx ⊢
      refine (HP.out w1).mono ?_
      rintro e w2 ⟨rfl, c2⟩
      have hx2 := c2.keep hx (by simp)
      have HC2 := Lib.hid (HC.out.trans c2)
      have ox := old hx2
      have hy : (w2.alloc (.cells (pts a b c d j) 293)).heap[w2.heap.size]? = some (.cells (pts a b c d j) 293 (0, 0)) := by simp
      clear c2 hx hw1 hz
      go_wp2_with (first | (go_at_call 214; (with_reducible refine (G0.out _).mono ?_); rintro e w' ⟨rfl, rfl⟩) | (go_at_call 214; (with_reducible refine (G1.out _).mono ?_); rintro e w' ⟨rfl, rfl⟩))
      go_ret
      exact ⟨rfl, HC2.out.alloc _⟩
  · rw [h1]
    show Calls _ _ _ _ fun e w' => e = .returned (.bool (false)) ∧ _
    have G0 := Lib.hid (fun w => igoodReg i.a a w)
    rw [h1] at G0
    clear h1 h2 h3
    go_enter Tryz.func199, Tryz.ntmps199
    go_wp2_with (go_at_call 212; refine (iisop _ _).mono ?_; rintro e w' ⟨rfl, rfl⟩)
    generalize hw1 : w.alloc (.cells (insc i) 33) = w1 at hx HC ⊢
    generalize hz : w.heap.size = p at hx ⊢
    refine (HP.out w1).mono ?_
    rintro e w2 ⟨rfl, c2⟩
    have hx2 := c2.keep hx (by simp)
    have HC2 := Lib.hid (HC.out.trans c2)
    have ox := old hx2
    have hy : (w2.alloc (.cells (pts a b c d j) 293)).heap[w2.heap.size]? = some (.cells (pts a b c d j) 293 (0, 0)) := by simp
    clear c2 hx hw1 hz
    go_wp2_with (go_at_call 214; (with_reducible refine (G0.out _).mono ?_); rintro e w' ⟨rfl, rfl⟩)
    go_ret
    exact ⟨rfl, HC2.out.alloc _⟩
/-- Parts of a word that do not meet are their sum. -/
theorem or_sum (a b k : Nat) (h : b < 2 ^ k) (hs : b + 2 ^ k * a < 18446744073709551616) : bits .or .u64 (b : Int) ((2 ^ k * a : Nat) : Int) = ((b + 2 ^ k * a : Nat) : Int) := by
  rw [bits_or_u64_nat _ _ (by omega) (by omega), Nat.or_comm, ← Nat.two_pow_add_eq_or_of_lt h, Nat.add_comm]
theorem or_int (x y : Int) (k : Nat) (a : Int) (hy : y = 2 ^ k * a) (ha : 0 ≤ a) (h0 : 0 ≤ x) (h : x < 2 ^ k) (hs : x + y < 18446744073709551616) : bits .or .u64 x y = x + y := by
  obtain ⟨X, rfl⟩ := Int.eq_ofNat_of_zero_le h0
  obtain ⟨A, rfl⟩ := Int.eq_ofNat_of_zero_le ha
  have e : y = ((2 ^ k * A : Nat) : Int) := by rw [hy]; push_cast; rfl
  rw [e] at hs ⊢
  have h' : X < 2 ^ k := by exact_mod_cast h
  rw [or_sum A X k h' (by omega)]
  push_cast
  rfl
theorem u64_w (x : Int) : IntKind.u64.wrap x = x % 18446744073709551616 := by simp [IntKind.wrap, IntKind.bits, IntKind.signed]
theorem code_or {i : Ins} (h : goodI i = true) : bits BinOp.or IntKind.u64 (bits BinOp.or IntKind.u64 (IntKind.u64.wrap i.op) (bits BinOp.or IntKind.u64 (bits BinOp.or IntKind.u64 (IntKind.u64.wrap (IntKind.u64.wrap i.a * 256)) (IntKind.u64.wrap (IntKind.u64.wrap i.b * 4096))) (IntKind.u64.wrap (IntKind.u64.wrap i.c * 65536)))) (IntKind.u64.wrap (IntKind.u64.wrap i.im * 4294967296)) = codeI i := by
  have ⟨h1, h2, h3, h4, h5⟩ := goodI_parts h
  have ea : IntKind.u64.wrap (IntKind.u64.wrap i.a * 256) = i.a * 256 := by rw [u64_w, u64_w]; omega
  have eb : IntKind.u64.wrap (IntKind.u64.wrap i.b * 4096) = i.b * 4096 := by rw [u64_w, u64_w]; omega
  have ec : IntKind.u64.wrap (IntKind.u64.wrap i.c * 65536) = i.c * 65536 := by rw [u64_w, u64_w]; omega
  have eo : IntKind.u64.wrap i.op = i.op := by rw [u64_w]; omega
  have em : IntKind.u64.wrap (IntKind.u64.wrap i.im * 4294967296) = (i.im % 4294967296) * 4294967296 := by rw [u64_w, u64_w]; omega
  rw [ea, eb, ec, eo, em]
  rw [or_int (i.a * 256) (i.b * 4096) 12 i.b (by omega) (by omega) (by omega) (by omega) (by omega)]
  rw [or_int (i.a * 256 + i.b * 4096) (i.c * 65536) 16 i.c (by omega) (by omega) (by omega) (by omega) (by omega)]
  rw [or_int i.op (i.a * 256 + i.b * 4096 + i.c * 65536) 8 (i.a + i.b * 16 + i.c * 256) (by omega) (by omega) (by omega) (by omega) (by omega)]
  rw [or_int (i.op + (i.a * 256 + i.b * 4096 + i.c * 65536)) (i.im % 4294967296 * 4294967296) 32 (i.im % 4294967296) (by omega) (by omega) (by omega) (by omega) (by omega)]
  unfold codeI
  omega
theorem iencode_bad (i : Ins) (w : World) (h : goodI i = false) : Calls Tryz.prog 190 #[.agg (insc i)] w fun e w' => e = .returned (.tuple #[.int .u64 0, .int .i64 11]) ∧ Chg [] w w' := by
  have hx : (w.alloc (.cells (insc i) 33)).heap[w.heap.size]? = some (.cells (insc i) 33 (0, 0)) := by simp
  have HC := Lib.hid ((Chg.refl [] w).alloc (.cells (insc i) 33))
  have HG := Lib.hid (fun w => igood_any i w)
  rw [h] at HG
  clear h
  go_enter Tryz.func190, Tryz.ntmps190
  go_wp2_with (go_at_call 199; refine (HG.out _).mono ?_; rintro e w2 ⟨rfl, c2⟩)
  go_ret2
  exact ⟨rfl, HC.out.trans c2⟩
theorem iencode_ok (i : Ins) (w : World) (h : goodI i = true) : Calls Tryz.prog 190 #[.agg (insc i)] w fun e w' => e = .returned (.tuple #[.int .u64 (codeI i), .int .i64 0]) ∧ Chg [] w w' := by
  have hx : (w.alloc (.cells (insc i) 33)).heap[w.heap.size]? = some (.cells (insc i) 33 (0, 0)) := by simp
  have HC := Lib.hid ((Chg.refl [] w).alloc (.cells (insc i) 33))
  have HG := Lib.hid (fun w => igood_any i w)
  rw [h] at HG
  have HP := Lib.hid h
  clear h
  go_enter Tryz.func190, Tryz.ntmps190
  go_wp2_with fail
  generalize hw1 : w.alloc (.cells (insc i) 33) = w1 at hx HC ⊢
  generalize hz : w.heap.size = p at hx ⊢
  refine (HG.out w1).mono ?_
  rintro e w2 ⟨rfl, c2⟩
  have hx2 := c2.keep hx (by simp)
  have HC2 := Lib.hid (HC.out.trans c2)
  clear c2 hx hw1 hz
  go_wp2_with fail
  go_ret2
  exact ⟨by rw [code_or HP.out]; rfl, HC2.out⟩
theorem results_ins2 {fn : Func} {p t : Tmp} (h : fn.results = #[.cell p 33, .tmp t]) (tmps : Array Value) (w : World) (b : Nat) (s : Ins) (fr : Nat × Nat)
    (hp : tmps.getD p undef = .pointer (some ⟨b, 0, none⟩)) (hb : w.heap[b]? = some (.cells (insc s) 33 fr)) (x : Value) (hx : tmps.getD t undef = x) :
    (results fn tmps).run Tryz.prog w = .ok (.tuple #[.agg (insc s), x]) w := by
  subst hx
  have hp' : tmps[p]?.getD undef = .pointer (some ⟨b, 0, none⟩) := by simpa using hp
  have := run_loadVar_row (P := Tryz.prog) w b 33 33 (insc s) fr _ hb Tryz.underlying33 rfl (by rw [insc_size]; kernel_rfl)
  simp [results, h, hp', asAddr, this]
theorem and_mod (u : Int) (h0 : 0 ≤ u) (h64 : u < 18446744073709551616) (k : Nat) (hk : k < 63) (m : Int) (hm : m = 2 ^ k - 1) : bits .and .u64 u m = u % 2 ^ k := by
  obtain ⟨U, rfl⟩ := Int.eq_ofNat_of_zero_le h0
  have h1 : 1 ≤ 2 ^ k := Nat.one_le_two_pow
  have h2 : 2 ^ k < 2 ^ 63 := Nat.pow_lt_pow_right (by omega) hk
  have e : m = ((2 ^ k - 1 : Nat) : Int) := by rw [hm]; push_cast [h1]; rfl
  rw [e, bits_and_u64_nat _ _ (by omega) (by omega), Nat.and_two_pow_sub_one_eq_mod]
  push_cast
  rfl
theorem ins_walk (u : Int) (h0 : 0 ≤ u) (h64 : u < 18446744073709551616) : (⟨wrap64 (bits BinOp.and IntKind.u64 u 255), wrap64 (bits BinOp.and IntKind.u64 (u / 256) 15), wrap64 (bits BinOp.and IntKind.u64 (u / 4096) 15), wrap64 (bits BinOp.and IntKind.u64 (u / 65536) 15), wrap64 (wrap32 (u / 4294967296))⟩ : Ins) = insOf u := by
  have w64 : ∀ x, wrap64 x = (x + 9223372036854775808) % 18446744073709551616 - 9223372036854775808 := fun x => by simp [wrap64]
  have w32 : ∀ x, wrap32 x = (x + 2147483648) % 4294967296 - 2147483648 := fun x => by simp [wrap32]
  rw [and_mod u h0 h64 8 (by omega) 255 (by decide), and_mod (u / 256) (by omega) (by omega) 4 (by omega) 15 (by decide), and_mod (u / 4096) (by omega) (by omega) 4 (by omega) 15 (by decide), and_mod (u / 65536) (by omega) (by omega) 4 (by omega) 15 (by decide)]
  unfold insOf imOf
  simp only [w64, w32, Ins.mk.injEq]
  refine ⟨by omega, by omega, by omega, by omega, ?_⟩
  split <;> omega
theorem idecode (u : Int) (h0 : 0 ≤ u) (h64 : u < 18446744073709551616) (w : World) : Calls Tryz.prog 172 #[.int .u64 u] w fun e w' => e = .returned (.tuple #[.agg (insc (decI u)), .int .i64 (if decB u then 0 else 11)]) ∧ Chg [] w w' := by
  have hI := ins_walk u h0 h64
  have HZ : (putRow ((w.alloc (.cells (insc insZ) 33)).alloc (.cells (insc insZ) 33)) (w.heap.size + 1) 0 (insc (insOf u))).heap[w.heap.size]? = some (.cells (insc insZ) 33 (0, 0)) := by
    rw [heap_putRow _ _ _ _ _ (by simp [rowHas, Fit, insc_size]), if_neg (by omega)]
    simp
  have HY : (putRow ((w.alloc (.cells (insc insZ) 33)).alloc (.cells (insc insZ) 33)) (w.heap.size + 1) 0 (insc (insOf u))).heap[w.heap.size + 1]? = some (.cells (insc (insOf u)) 33 (0, 0)) := by
    rw [heap_putRow _ _ _ _ _ (by simp [rowHas, Fit, insc_size]), if_pos rfl]
    simp
  have HC := Lib.hid ((((Chg.refl [] w).alloc (.cells (insc insZ) 33)).alloc (.cells (insc insZ) 33)).putRow (w.heap.size + 1) 0 (insc (insOf u)) (.inr (by omega)))
  have HN := Lib.hid (show w.heap.size ≤ w.heap.size by omega)
  have HI := Lib.hid hI
  clear hI
  cases hg : goodI (insOf u)
  · have hd : decB u = false := by unfold decB; rw [hg]; rfl
    rw [show decI u = insZ by unfold decI; rw [hd]; rfl, hd]
    go_enter Tryz.func172, Tryz.ntmps172
    try dsimp only [List.append]
    go_wp2_with fail
    simp only [HI.out]
    generalize putRow ((w.alloc (.cells (insc insZ) 33)).alloc (.cells (insc insZ) 33)) (w.heap.size + 1) 0 (insc (insOf u)) = w1 at HZ HY HC ⊢
    refine (iencode_bad (insOf u) w1 hg).mono ?_
    rintro e w2 ⟨rfl, c2⟩
    have hz := c2.keep HZ (by simp)
    have hy := c2.keep HY (by simp)
    have HC2 := Lib.hid (HC.out.trans c2)
    clear HZ HY c2
    go_wp2_with fail
    refine bodyPost_ret (v := .tuple #[.agg (insc insZ), .int .i64 11]) (results_ins2 (by rfl) _ _ w.heap.size insZ (0, 0) (by rfl) (by simp [*]; try rfl) _ (by rfl)) (by rfl) ⟨rfl, HC2.out.putRow _ _ _ (.inr HN.out)⟩
  cases hc : codeI (insOf u) == u
  · have hd : decB u = false := by unfold decB; rw [hg, hc]; rfl
    rw [show decI u = insZ by unfold decI; rw [hd]; rfl, hd]
    have hne : (codeI (insOf u) != u) = true := by simp [bne, hc]
    clear hc
    go_enter Tryz.func172, Tryz.ntmps172
    try dsimp only [List.append]
    go_wp2_with fail
    simp only [HI.out]
    generalize putRow ((w.alloc (.cells (insc insZ) 33)).alloc (.cells (insc insZ) 33)) (w.heap.size + 1) 0 (insc (insOf u)) = w1 at HZ HY HC ⊢
    refine (iencode_ok (insOf u) w1 hg).mono ?_
    rintro e w2 ⟨rfl, c2⟩
    have hz := c2.keep HZ (by simp)
    have hy := c2.keep HY (by simp)
    have HC2 := Lib.hid (HC.out.trans c2)
    clear HZ HY c2
    go_wp2_with fail
    refine bodyPost_ret (v := .tuple #[.agg (insc insZ), .int .i64 11]) (results_ins2 (by rfl) _ _ w.heap.size insZ (0, 0) (by rfl) (by simp [*]; try rfl) _ (by rfl)) (by rfl) ⟨rfl, HC2.out.putRow _ _ _ (.inr HN.out)⟩
  · have hd : decB u = true := by unfold decB; rw [hg, hc]; rfl
    rw [show decI u = insOf u by unfold decI; rw [hd]; rfl, hd]
    have hne : (codeI (insOf u) != u) = false := by simp [bne, hc]
    clear hc
    go_enter Tryz.func172, Tryz.ntmps172
    try dsimp only [List.append]
    go_wp2_with fail
    simp only [HI.out]
    generalize putRow ((w.alloc (.cells (insc insZ) 33)).alloc (.cells (insc insZ) 33)) (w.heap.size + 1) 0 (insc (insOf u)) = w1 at HZ HY HC ⊢
    refine (iencode_ok (insOf u) w1 hg).mono ?_
    rintro e w2 ⟨rfl, c2⟩
    have hz := c2.keep HZ (by simp)
    have hy := c2.keep HY (by simp)
    have HC2 := Lib.hid (HC.out.trans c2)
    clear HZ HY c2
    go_wp2_with fail
    refine bodyPost_ret (v := .tuple #[.agg (insc (insOf u)), .int .i64 0]) (results_ins2 (by rfl) _ _ w.heap.size (insOf u) (0, 0) (by rfl) (by rw [heap_putRow _ _ _ _ _ (by rw [hz]; simp [rowHas, Fit, insc_size]), if_pos rfl, hz]; exact rowPut_full _ _ _ _ (by rw [insc_size, insc_size])) _ (by rfl)) (by rfl) ⟨rfl, HC2.out.putRow _ _ _ (.inr HN.out)⟩
end Go.Proofs.YtcjoinhngdfdmaaGreatDoor
end
