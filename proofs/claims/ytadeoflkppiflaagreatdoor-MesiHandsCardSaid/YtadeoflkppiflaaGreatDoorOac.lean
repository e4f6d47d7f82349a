/- Texts of the walk, one behind the other: Msge Wpqm Arrm Agm Arr. No condition. -/
import Derived.Test.YtadeoflkppiflaaGreatDoorOaa
import Derived.Test.YtadeoflkppiflaaGreatDoorOab
import Derived.BigQuiet
import Derived.ChangeKeysEq
import Derived.Deep.CutBlock
import Derived.Laws.StructEq
section
namespace Go.Proofs.YtadeoflkppiflaaGreatDoor
open Go.RowKit
set_option linter.unusedVariables false
set_option maxHeartbeats 1000000
attribute [local go_sem ↓] append_appS copy_copS clear_clrS make_mkS slice_slS cell_row frozen_row loadLine storeLine loadMsg storeMsg loadHas storeHas heap_drew heap_drewN heap_alloc heap_past heap_setCell heap_putRow vs_get msc_kd msc_li msc_di msc_ke
attribute [local go_sem] rowCell_some rowFrozen_some rowHas_some rowIn_some rowPart_full rowPart_lit rowPut_full rowPut_lit rowSet_some size_putRow vs_size vs_one wideLine wideMsg wideHas run_loadS run_storeS run_appS run_copS run_clrS run_mkS run_slS loadW_at storeW_at fit_all fit_le one_int one_bool one_pointer one_slice allOne_list putRow_new ne_size1 ne_size2 ne_size3 ne_size4 zero8_length line_eq lit8 msc_size msc_one msc_part msc_in fold_msc
attribute [local simp ↓] heap_drew heap_drewN heap_alloc heap_past heap_setCell heap_putRow
attribute [local simp] rowCell_some rowFrozen_some rowHas_some rowIn_some rowPart_full rowPart_lit rowPut_full rowPut_lit rowSet_some size_putRow vs_size fit_all putRow_new ne_size1 ne_size2 ne_size3 ne_size4 zero8_length msc_size

/-! ### Messages compared -/
theorem line_part (m : Ms) (w : World) : (part 36 (msc m) 4).run Tryz.prog w = .ok (.agg (vs m.l)) w := by
  obtain ⟨i, hi⟩ : ∃ i, Tryz.prog.info? 36 = some i := Option.isSome_iff_exists.1 (by kernel_rfl)
  have hc : Tryz.prog.cellsOf 36 = 8 := by kernel_rfl
  have he : (msc m).extract 4 (4 + 8) = vs m.l := by
    apply Array.ext'
    rw [Array.toList_extract]
    have := m.h
    simp [msc, Ms.enc, vs, List.extract, List.take_of_length_le, this]
  first
    | (simp [part, isAgg, run_underlying Tryz.underlying36, he]; done)
    | (simp [part, isAgg, run_underlying Tryz.underlying36, hc, he]; done)
    | (simp [part, isAgg, run_underlying Tryz.underlying36, run_sizeOf w hi, he]; done)
theorem msg_same (m : Ms) (w : World) : (Op.equalIn 10000 38 (.agg (msc m)) (.agg (msc m))).run Tryz.prog w = .ok true w := by
  have h0 := run_part_plain (P := Tryz.prog) w (e := 3) (by kernel_rfl) (msc_kd m)
  have h1 := run_part_plain (P := Tryz.prog) w (e := 3) (by kernel_rfl) (msc_li m)
  have h2 := run_part_plain (P := Tryz.prog) w (e := 4) (by kernel_rfl) (msc_di m)
  have h3 := run_part_plain (P := Tryz.prog) w (e := 4) (by kernel_rfl) (msc_ke m)
  have h4 := line_part m w
  have e0 := fun a => run_equalIn_int w 9998 3 .i64 .i64 a a Tryz.underlying3
  have e1 := fun a => run_equalIn_bool w 9998 4 a a Tryz.underlying4
  have e2 : (Op.equalIn 9999 36 (.agg (vs m.l)) (.agg (vs m.l))).run Tryz.prog w = .ok true w := by
    obtain ⟨i0, hi0⟩ : ∃ i, Tryz.prog.info? 34 = some i := Option.isSome_iff_exists.1 (by kernel_rfl)
    rw [run_equalIn_array w 9998 _ _ Tryz.underlying36 hi0, show Tryz.prog.cellsOf 34 = 1 by kernel_rfl]
    have := eqItems_ints (P := Tryz.prog) w 9997 (k := .u64) Tryz.underlying34 (by kernel_rfl) m.l m.l (List.range 8) (by intro i hi; have := m.h; simp at hi; omega)
    unfold vs
    rw [this]
    simp
  rw [run_equalIn_struct w 9999 38 _ _ (by simp only [Program.fieldsOf, Tryz.underlying38]) (by kernel_rfl)]
  simp only [Program.fieldsOf, Tryz.underlying38]
  simp [Op.eqFields, h0, h1, h2, h3, h4, e0, e1, e2]
theorem msg_sameZ (w : World) : (Op.equalIn 10000 38 (.agg (msc msZ)) (.agg #[.int .i64 0, .int .i64 0, .bool false, .bool false, .int .u64 0, .int .u64 0, .int .u64 0, .int .u64 0, .int .u64 0, .int .u64 0, .int .u64 0, .int .u64 0])).run Tryz.prog w = .ok true w := msg_same msZ w
attribute [local go_sem ↓] msg_same msg_sameZ
end Go.Proofs.YtadeoflkppiflaaGreatDoor
end
section
namespace Go.Proofs.YtadeoflkppiflaaGreatDoor
open Go.RowKit
set_option linter.unusedVariables false

/-- A line that will be written. -/
structure Ent where
  pos : Nat
  l : List Int
  h : l.length = 8
def Ent.enc (e : Ent) : List Value := .int .i64 e.pos :: e.l.map (Value.int .u64)
theorem Ent.len (e : Ent) : (Ent.enc e).length = 9 := by simp [Ent.enc, e.h]
theorem Ent.one (e : Ent) : ∀ v ∈ Ent.enc e, v.oneCell' = true := by
  intro v hv
  simp only [Ent.enc, List.mem_cons, List.mem_map] at hv
  rcases hv with rfl | ⟨x, _, rfl⟩ <;> rfl
/-- No entry's cells. -/
def entZ : Value := .agg (.int .i64 0 :: List.replicate 8 (.int .u64 0)).toArray
theorem entZ_size : entZ.cells.size = 9 := rfl
theorem entZ_one : ∀ v ∈ entZ.cells, v.oneCell' = true := by intro v hv; simp [entZ, Value.cells] at hv; rcases hv with rfl | rfl <;> rfl
/-- Its cells. -/
def entc (e : Ent) : Array Value := (Ent.enc e).toArray
theorem entc_size (e : Ent) : (entc e).size = 9 := by simp [entc, Ent.len]
theorem entc_one (e : Ent) : allOne (entc e) := allOne_list _ (List.all_eq_true.2 (Ent.one e))
theorem entc_pos (e : Ent) : (entc e)[0]? = some (.int .i64 e.pos) := by simp [entc, Ent.enc]
theorem entc_part (e : Ent) (t : TypeId) (f : Nat × Nat) : rowPart (some (.cells (entc e) t f)) 1 8 = vs e.l := by
  rw [rowPart_some]
  have : e.l.length = 8 := e.h
  simp [entc, Ent.enc, vs, List.take_of_length_le, this]
theorem entc_in (e : Ent) (t : TypeId) (f : Nat × Nat) : rowIn (some (.cells (entc e) t f)) 1 8 = true := by
  rw [rowIn_some, entc_size]; exact decide_eq_true (show 1 + 8 ≤ 9 by omega)
theorem entc_made (e : Ent) : (#[.int .i64 (e.pos : Int)] : Array Value) ++ vs e.l = entc e := by simp [entc, Ent.enc, vs]

/-- As the walk spells it. -/
theorem fold_ent (e : Ent) : Array.foldl (fun cs y => cs.setIfInBounds (1 + y.snd) y.fst) #[.int .i64 e.pos, .int .u64 0, .int .u64 0, .int .u64 0, .int .u64 0, .int .u64 0, .int .u64 0, .int .u64 0, .int .u64 0] (vs e.l).zipIdx 0 8 = entc e := by
  rw [fold_put _ _ 1 8 (by rw [vs_size, e.h]) (by simp)]
  have : e.l.length = 8 := e.h
  simp [splice, vs, entc, Ent.enc, this]
theorem fold_entc (C : Array Value) (e : Ent) (h : C.size = 9) : Array.foldl (fun cs y => cs.setIfInBounds y.snd y.fst) C (entc e).zipIdx 0 9 = entc e := fold_all _ _ _ (entc_size e) h
theorem getElem?_splice {α : Type} (xs l : List α) (o j : Nat) (h : o + l.length ≤ xs.length) : (splice xs o l)[j]? = if j < o then xs[j]? else if j < o + l.length then l[j - o]? else xs[j]? := by
  unfold splice
  have e1 : (xs.take o).length = o := by simp; omega
  split
  · rename_i h1
    rw [List.append_assoc, List.getElem?_append_left (by omega), List.getElem?_take_of_lt h1]
  · split
    · rename_i h1 h2
      rw [List.append_assoc, List.getElem?_append_right (by omega), e1, List.getElem?_append_left (by omega)]
    · rename_i h1 h2
      rw [List.getElem?_append_right (by simp; omega), List.getElem?_drop]
      congr 1
      simp; omega
theorem lnPut_comm (xs a b : List Int) (i j : Nat) (hij : i ≠ j) (ha : a.length = 8) (hb : b.length = 8) (hi : Fit (i * 8) 8 xs.length) (hj : Fit (j * 8) 8 xs.length) : lnPut (lnPut xs i a) j b = lnPut (lnPut xs j b) i a := by
  have h1 := hi.out
  have h2 := hj.out
  have l1 := lnPut_length xs i a hi ha
  have l2 := lnPut_length xs j b hj hb
  apply List.ext_getElem?
  intro k
  unfold lnPut at *
  rw [getElem?_splice _ _ _ _ (by rw [l1]; omega), getElem?_splice _ _ _ _ (by omega), getElem?_splice _ _ _ _ (by rw [l2]; omega), getElem?_splice _ _ _ _ (by omega)]
  rw [ha, hb]
  rcases Nat.lt_or_gt_of_ne hij with h | h <;> (repeat' split) <;> first | rfl | omega

/-- Lines with entries laid over them, the eldest first. -/
def over (xs : List Int) (es : List Ent) : List Int := es.foldl (fun xs e => lnPut xs e.pos e.l) xs
theorem over_nil (xs : List Int) : over xs [] = xs := rfl
theorem over_append (xs : List Int) (a b : List Ent) : over xs (a ++ b) = over (over xs a) b := by simp [over]
theorem over_cons (xs : List Int) (e : Ent) (b : List Ent) : over xs (e :: b) = over (lnPut xs e.pos e.l) b := rfl
theorem over_snoc (xs : List Int) (a : List Ent) (e : Ent) : over xs (a ++ [e]) = lnPut (over xs a) e.pos e.l := by rw [over_append]; rfl
/-- Each entry is of one of n lines. -/
def Lie (n : Nat) (es : List Ent) : Prop := ∀ e ∈ es, e.pos < n
theorem Lie.nil (n : Nat) : Lie n [] := fun _ h => by cases h
theorem Lie.snoc {n : Nat} {es : List Ent} (h : Lie n es) {e : Ent} (he : e.pos < n) : Lie n (es ++ [e]) := fun x hx => by
  rcases List.mem_append.1 hx with h1 | h1
  · exact h x h1
  · rw [List.mem_singleton.1 h1]; exact he
theorem Lie.sub {n : Nat} {es es' : List Ent} (h : Lie n es) (hs : ∀ e ∈ es', e ∈ es) : Lie n es' := fun x hx => h x (hs x hx)
theorem Lie.get {n : Nat} {es : List Ent} (h : Lie n es) {k : Nat} {e : Ent} (he : es[k]? = some e) : e.pos < n := h e (List.mem_of_getElem? he)
theorem fit_line {n i : Nat} {xs : List Int} (hx : xs.length = n * 8) (hi : i < n) : Fit (i * 8) 8 xs.length := by rw [hx]; unfold Fit; omega
theorem over_length {n : Nat} : ∀ (es : List Ent) (xs : List Int), xs.length = n * 8 → Lie n es → (over xs es).length = n * 8
  | [], xs, hx, _ => hx
  | e :: es, xs, hx, h => by
    rw [over_cons]
    exact over_length es _ (by rw [lnPut_length _ _ _ (fit_line hx (h e (by simp))) e.h, hx]) (h.sub (by intro x hx; simp [hx]))
theorem ln_over_none {n i : Nat} : ∀ (es : List Ent) (xs : List Int), xs.length = n * 8 → Lie n es → (∀ e ∈ es, e.pos ≠ i) → ln (over xs es) i = ln xs i
  | [], xs, _, _, _ => rfl
  | e :: es, xs, hx, h, hn => by
    have hf := fit_line hx (h e (by simp))
    rw [over_cons, ln_over_none es _ (by rw [lnPut_length _ _ _ hf e.h, hx]) (h.sub (by intro x hx; simp [hx])) (fun x hx => hn x (by simp [hx])), ln_put_other _ _ _ _ hf e.h (hn e (by simp))]
theorem ln_over_last {n : Nat} (es post : List Ent) (e : Ent) (xs : List Int) (hx : xs.length = n * 8) (h : Lie n (es ++ e :: post)) (hp : ∀ x ∈ post, x.pos ≠ e.pos) : ln (over xs (es ++ e :: post)) e.pos = e.l := by
  have h1 : Lie n es := h.sub (by intro x hx; simp [hx])
  have hl := over_length es xs hx h1
  have hf := fit_line hl (h e (by simp))
  rw [over_append, over_cons, ln_over_none post _ (by rw [lnPut_length _ _ _ hf e.h, hl]) (h.sub (by intro x hx; simp [hx])) hp, ln_put_same _ _ _ hf e.h]
theorem over_put {n : Nat} : ∀ (es : List Ent) (xs l : List Int) (i : Nat), xs.length = n * 8 → Lie n es → i < n → l.length = 8 → (∀ x ∈ es, x.pos ≠ i) → over (lnPut xs i l) es = lnPut (over xs es) i l
  | [], xs, l, i, _, _, _, _, _ => rfl
  | e :: es, xs, l, i, hx, h, hi, hl, hn => by
    have hf := fit_line hx (h e (by simp))
    have hfi := fit_line hx hi
    rw [over_cons, over_cons, lnPut_comm xs l e.l i e.pos (fun h2 => hn e (by simp) h2.symm) hl e.h hfi hf]
    exact over_put es _ l i (by rw [lnPut_length _ _ _ hf e.h, hx]) (h.sub (by intro x hx; simp [hx])) hi hl (fun x hx => hn x (by simp [hx]))
theorem cut_at {α : Type} {es : List α} {k : Nat} {e : α} (he : es[k]? = some e) : es = es.take k ++ e :: es.drop (k + 1) := by
  obtain ⟨hk, rfl⟩ := List.getElem?_eq_some_iff.1 he
  rw [← List.drop_eq_getElem_cons hk, List.take_append_drop]
theorem erase_at {α : Type} (es : List α) (k : Nat) : es.eraseIdx k = es.take k ++ es.drop (k + 1) := List.eraseIdx_eq_take_drop_succ es k
/-- The eldest entry of a line is written: what all are laid over is as it was. -/
theorem over_drain {n : Nat} {es : List Ent} {k : Nat} {e : Ent} (xs : List Int) (hx : xs.length = n * 8) (h : Lie n es) (he : es[k]? = some e) (hk : ∀ x ∈ es.take k, x.pos ≠ e.pos) : over (lnPut xs e.pos e.l) (es.eraseIdx k) = over xs es := by
  have hc := cut_at he
  have h1 : Lie n (es.take k) := h.sub (fun x hx => List.mem_of_mem_take hx)
  have e1 : over xs es = over (lnPut (over xs (es.take k)) e.pos e.l) (es.drop (k + 1)) := by
    conv => lhs; rw [hc]
    rw [over_append, over_cons]
  rw [e1, erase_at, over_append, over_put _ _ _ _ hx h1 (h.get he) e.h hk]
/-- The newest words of a line among k entries and those behind. -/
theorem ln_over_at {n : Nat} {es : List Ent} {k : Nat} {e : Ent} (xs : List Int) (hx : xs.length = n * 8) (h : Lie n es) (he : es[k]? = some e) (hk : ∀ x ∈ es.drop (k + 1), x.pos ≠ e.pos) : ln (over xs es) e.pos = e.l := by
  have hc := cut_at he
  rw [hc]
  exact ln_over_last _ _ _ _ hx (by rw [← hc]; exact h) hk
theorem drop_all {α : Type} {p : α → Prop} {es : List α} {k : Nat} {e : α} (he : es[k]? = some e) (h : p e) (hd : ∀ x ∈ es.drop (k + 1), p x) : ∀ x ∈ es.drop k, p x := by
  obtain ⟨hk, rfl⟩ := List.getElem?_eq_some_iff.1 he
  rw [List.drop_eq_getElem_cons hk]
  intro x hx
  rcases List.mem_cons.1 hx with rfl | hx
  · exact h
  · exact hd x hx
theorem take_all {α : Type} {p : α → Prop} {es : List α} {k : Nat} {e : α} (he : es[k]? = some e) (h : p e) (hd : ∀ x ∈ es.take k, p x) : ∀ x ∈ es.take (k + 1), p x := by
  obtain ⟨hk, rfl⟩ := List.getElem?_eq_some_iff.1 he
  rw [List.take_succ_eq_append_getElem hk]
  intro x hx
  rcases List.mem_append.1 hx with hx | hx
  · exact hd x hx
  · rw [List.mem_singleton.1 hx]; exact h
/-! ### Entry k in its block -/
section
variable {es : List Ent} {k : Nat} {e : Ent} (h : es[k]? = some e) (r : List Value) (t : TypeId) (f : Nat × Nat)
include h
theorem ent_row : rowPart (some (.cells (sq Ent.enc es r) t f)) (k * 9) 9 = entc e := by
  have := rowPart_sq Ent.len h r t f 0 9 (by omega)
  rw [Nat.add_zero] at this
  rw [this]
  simp [entc, Ent.len, List.take_of_length_le]
theorem ent_rowIn : rowIn (some (.cells (sq Ent.enc es r) t f)) (k * 9) 9 = true := rowIn_sq Ent.len (List.getElem?_eq_some_iff.1 h).1 r t f 0 9 (by omega)
theorem ent_cell : (sq Ent.enc es r)[k * 9]? = some (.int .i64 e.pos) := by
  have := sq_cell Ent.len h r 0 (by omega)
  rw [Nat.add_zero] at this
  rw [this]; rfl
theorem ent_line : rowPart (some (.cells (sq Ent.enc es r) t f)) (k * 9 + 1) 8 = vs e.l := by
  rw [rowPart_sq Ent.len h r t f 1 8 (by omega)]
  have : e.l.length = 8 := e.h
  simp [Ent.enc, vs, List.take_of_length_le, this]
theorem ent_lineIn : rowIn (some (.cells (sq Ent.enc es r) t f)) (k * 9 + 1) 8 = true := rowIn_sq Ent.len (List.getElem?_eq_some_iff.1 h).1 r t f 1 8 (by omega)
end
/-! ### Integers in a block -/
def is (xs : List Int) : Array Value := (xs.map (Value.int .i64)).toArray
theorem is_size (xs : List Int) : (is xs).size = xs.length := by simp [is]
theorem is_set (xs : List Int) (i : Nat) (v : Int) : (is xs).setIfInBounds i (.int .i64 v) = is (xs.set i v) := by simp [is, List.map_set]
theorem is_sl {w : World} {b n : Nat} {t : TypeId} {f : Nat × Nat} {xs : List Int} (h : w.heap[b]? = some (.cells (is xs) t f)) (hn : xs.length = n) : Sl w 1 (some ⟨b, 0, none⟩) n (xs.map (Value.int .i64)) :=
  ⟨by simp [hn], .inr ⟨b, 0, _, t, f, rfl, h, by simp [is, List.take_of_length_le, hn]⟩⟩
theorem made_is (n : Nat) : madeCells #[.int .i64 0] n = is (List.replicate n 0) := by
  apply Array.ext
  · simp [madeCells, is]
  · intro k h1 h2
    have hk : k % 1 = 0 := Nat.mod_one k
    simp [madeCells, is, hk]
/-- The lines of the first k entries, then 0. -/
def posFill (es : List Ent) (k : Nat) : List Int := (es.take k).map (fun e => (e.pos : Int)) ++ List.replicate (es.length - k) 0
def poss (es : List Ent) : List Int := es.map (fun e => (e.pos : Int))
theorem poss_length (es : List Ent) : (poss es).length = es.length := by simp [poss]
theorem posFill_zero (es : List Ent) : posFill es 0 = List.replicate es.length 0 := by simp [posFill]
theorem posFill_all (es : List Ent) : posFill es es.length = poss es := by simp [posFill, poss]
theorem posFill_length (es : List Ent) (k : Nat) (h : k ≤ es.length) : (posFill es k).length = es.length := by simp [posFill]; omega
theorem posFill_succ {es : List Ent} {k : Nat} {e : Ent} (h : es[k]? = some e) : (posFill es k).set k e.pos = posFill es (k + 1) := by
  obtain ⟨hk, rfl⟩ := List.getElem?_eq_some_iff.1 h
  unfold posFill
  have e1 : ((es.take k).map (fun e => (e.pos : Int))).length = k := by simp; omega
  rw [List.set_append_right _ _ (by omega), e1, Nat.sub_self, List.take_succ_eq_append_getElem hk, List.map_append]
  obtain ⟨m, hm⟩ : ∃ m, es.length - k = m + 1 := ⟨es.length - k - 1, by omega⟩
  rw [hm, show es.length - (k + 1) = m by omega, List.replicate_succ]
  simp
end Go.Proofs.YtadeoflkppiflaaGreatDoor
end
section
namespace Go.Proofs.YtadeoflkppiflaaGreatDoor
open Go.RowKit
set_option linter.unusedVariables false

/-- A slot: a line, or nothing. -/
structure Slt where
  st : Int
  li : Int
  l : List Int
  us : Int
  h : l.length = 8
def Slt.enc (s : Slt) : List Value := .int .i64 s.st :: .int .i64 s.li :: (s.l.map (Value.int .u64) ++ [.int .i64 s.us])
theorem Slt.len (s : Slt) : (Slt.enc s).length = 11 := by simp [Slt.enc, s.h]
theorem Slt.one (s : Slt) : ∀ v ∈ Slt.enc s, v.oneCell' = true := by
  intro v hv
  simp only [Slt.enc, List.mem_cons, List.mem_append, List.mem_map, List.not_mem_nil, or_false] at hv
  rcases hv with rfl | rfl | ⟨x, _, rfl⟩ | rfl <;> rfl
/-- No line. -/
def sltZ : Slt := ⟨0, 0, [0, 0, 0, 0, 0, 0, 0, 0], 0, rfl⟩
def sltV : Value := .agg (.int .i64 0 :: .int .i64 0 :: (List.replicate 8 (.int .u64 0) ++ [.int .i64 0])).toArray
theorem sltV_size : sltV.cells.size = 11 := rfl
theorem sltV_one : ∀ v ∈ sltV.cells, v.oneCell' = true := by intro v hv; simp [sltV, Value.cells] at hv; rcases hv with rfl | rfl | rfl <;> rfl
/-- Its cells. -/
def slc (s : Slt) : Array Value := (Slt.enc s).toArray
theorem slc_size (s : Slt) : (slc s).size = 11 := by simp [slc, Slt.len]
theorem slc_one (s : Slt) : allOne (slc s) := allOne_list _ (List.all_eq_true.2 (Slt.one s))
theorem slc_st (s : Slt) : (slc s)[0]? = some (.int .i64 s.st) := by simp [slc, Slt.enc]
theorem slc_li (s : Slt) : (slc s)[1]? = some (.int .i64 s.li) := by simp [slc, Slt.enc]
theorem enc_us (s : Slt) : (Slt.enc s)[10]? = some (.int .i64 s.us) := by
  have : s.l.length = 8 := s.h
  unfold Slt.enc
  rw [List.getElem?_cons_succ, List.getElem?_cons_succ, List.getElem?_append_right (by simp [this])]
  simp [this]
theorem slc_us (s : Slt) : (slc s)[10]? = some (.int .i64 s.us) := by rw [slc, List.getElem?_toArray, enc_us]
theorem enc_line (s : Slt) : ((Slt.enc s).drop 2).take 8 = s.l.map (Value.int .u64) := by
  have : s.l.length = 8 := s.h
  unfold Slt.enc
  rw [List.drop_succ_cons, List.drop_succ_cons, List.drop_zero, List.take_append_of_le_length (by simp [this]), List.take_of_length_le (by simp [this])]
theorem slc_part (s : Slt) (t : TypeId) (f : Nat × Nat) : rowPart (some (.cells (slc s) t f)) 2 8 = vs s.l := by
  rw [rowPart_some]
  unfold slc
  rw [List.toList_toArray, enc_line]; rfl
theorem slc_in (s : Slt) (t : TypeId) (f : Nat × Nat) : rowIn (some (.cells (slc s) t f)) 2 8 = true := by
  rw [rowIn_some, slc_size]; exact decide_eq_true (show 2 + 8 ≤ 11 by omega)
theorem slcZ : slc sltZ = #[.int .i64 0, .int .i64 0, .int .u64 0, .int .u64 0, .int .u64 0, .int .u64 0, .int .u64 0, .int .u64 0, .int .u64 0, .int .u64 0, .int .i64 0] := rfl

theorem fold_slt (st li z : Int) (l : List Int) (h : l.length = 8) : Array.foldl (fun cs y => cs.setIfInBounds (2 + y.snd) y.fst) #[.int .i64 st, .int .i64 li, .int .u64 0, .int .u64 0, .int .u64 0, .int .u64 0, .int .u64 0, .int .u64 0, .int .u64 0, .int .u64 0, .int .i64 z] (vs l).zipIdx 0 8 = slc ⟨st, li, l, z, h⟩ := by
  rw [fold_put _ _ 2 8 (by rw [vs_size, h]) (by simp)]
  simp [splice, vs, slc, Slt.enc, h]
theorem fold_slc (C : Array Value) (s : Slt) (h : C.size = 11) : Array.foldl (fun cs y => cs.setIfInBounds y.snd y.fst) C (slc s).zipIdx 0 11 = slc s := fold_all _ _ _ (slc_size s) h
theorem slc_set_us (s : Slt) (u : Int) : (slc s).setIfInBounds 10 (.int .i64 u) = slc ⟨s.st, s.li, s.l, u, s.h⟩ := by
  have h8 : s.l.length = 8 := s.h
  unfold slc Slt.enc
  rw [List.setIfInBounds_toArray, List.set_cons_succ, List.set_cons_succ, List.set_append_right _ _ (by simp [h8])]
  simp [h8]

/-! ### The first that is so -/
def hit (p : Slt → Bool) (ys : List Slt) : Int := if ys.findIdx p < ys.length then (ys.findIdx p : Nat) else -1
theorem findIdx_hit {α : Type} {p : α → Bool} {ys : List α} {k : Nat} {y : α} (h : ys[k]? = some y) (hp : p y = true) (hb : ∀ x ∈ ys.take k, p x = false) : ys.findIdx p = k := by
  obtain ⟨hk, rfl⟩ := List.getElem?_eq_some_iff.1 h
  refine (List.findIdx_eq hk).2 ⟨hp, fun j hj => ?_⟩
  have := hb ys[j] (List.mem_take_iff_getElem.2 ⟨j, by omega, rfl⟩)
  simpa using this
theorem hit_at {p : Slt → Bool} {ys : List Slt} {k : Nat} {y : Slt} (h : ys[k]? = some y) (hp : p y = true) (hb : ∀ x ∈ ys.take k, p x = false) : hit p ys = (k : Int) := by
  have hk := (List.getElem?_eq_some_iff.1 h).1
  unfold hit
  rw [findIdx_hit h hp hb, if_pos hk]
theorem hit_none {p : Slt → Bool} {ys : List Slt} (h : ∀ x ∈ ys, p x = false) : hit p ys = -1 := by
  unfold hit
  rw [if_neg]
  rw [List.findIdx_eq_length.2 (by intro x hx; simpa using h x hx)]
  omega
/-- Either one is, and all ahead of it are not, or none is. -/
theorem hit_or (p : Slt → Bool) (ys : List Slt) : (∃ (k : Nat) (y : Slt), hit p ys = (k : Int) ∧ ys.findIdx p = k ∧ ys[k]? = some y ∧ p y = true ∧ k < ys.length ∧ ∀ x ∈ ys.take k, p x = false) ∨ (hit p ys = -1 ∧ ys.findIdx p = ys.length ∧ ∀ x ∈ ys, p x = false) := by
  by_cases h : ys.findIdx p < ys.length
  · refine .inl ⟨ys.findIdx p, ys[ys.findIdx p], by unfold hit; rw [if_pos h], rfl, List.getElem?_eq_getElem h, List.findIdx_getElem, h, ?_⟩
    intro x hx
    obtain ⟨j, hj, rfl⟩ := List.mem_take_iff_getElem.1 hx
    have := List.not_of_lt_findIdx (p := p) (xs := ys) (i := j) (by omega)
    simpa using this
  · have e : ys.findIdx p = ys.length := Nat.le_antisymm List.findIdx_le_length (by omega)
    refine .inr ⟨by unfold hit; rw [if_neg h], e, ?_⟩
    have := List.findIdx_eq_length.1 e
    intro x hx
    simpa using this x hx
/-- This slot has that line; this one is empty. -/
def pLine (li : Int) (x : Slt) : Bool := x.st != 0 && x.li == li
def pFree (x : Slt) : Bool := x.st == 0
theorem pLine_yes {li : Int} {x : Slt} (h : pLine li x = true) : x.st ≠ 0 ∧ x.li = li := by simpa [pLine] using h

/-! ### Whose line may go -/
def atRest (st : Int) : Bool := decide (1 ≤ st) && decide (st ≤ 3)
def eldStep (a : Int × Int) (s : Slt) : Int × Int := if atRest s.st && (decide (a.1 < 0) || decide (s.us < a.2)) then (s.li, s.us) else a
def eldS (ys : List Slt) : Int × Int := ys.foldl eldStep (-1, 0)
def eld (ys : List Slt) : Int := (eldS ys).1
theorem eldS_take {ys : List Slt} {k : Nat} {y : Slt} (h : ys[k]? = some y) : eldS (ys.take (k + 1)) = eldStep (eldS (ys.take k)) y := by
  obtain ⟨hk, rfl⟩ := List.getElem?_eq_some_iff.1 h
  unfold eldS
  rw [List.take_succ_eq_append_getElem hk, List.foldl_append]; rfl

/-! ### Sets -/
def setOf (S : Nat) (li : Int) : Nat := li.toNat % S
/-- The slots of a set. -/
def seg (W : Nat) (xs : List Slt) (t : Nat) : List Slt := (xs.drop (t * W)).take W
theorem seg_length {S W : Nat} {xs : List Slt} (hx : xs.length = S * W) {t : Nat} (ht : t < S) : (seg W xs t).length = W := by
  have : t * W + W ≤ S * W := mul_lt_of ht
  simp [seg]; omega
theorem seg_get {W : Nat} (xs : List Slt) (t k : Nat) (hk : k < W) : (seg W xs t)[k]? = xs[t * W + k]? := by
  unfold seg
  rw [List.getElem?_take_of_lt hk, List.getElem?_drop]
/-- There are so many sets and ways, so many slots, each line in its own set. -/
structure Good (S W : Nat) (xs : List Slt) : Prop where
  sets : S = 1 ∨ S = 2 ∨ S = 4 ∨ S = 8
  way1 : 1 ≤ W
  way8 : W ≤ 8
  len : xs.length = S * W
  home : ∀ i x, xs[i]? = some x → x.st ≠ 0 → 0 ≤ x.li ∧ i / W = setOf S x.li
theorem Good.spos {S W : Nat} {xs : List Slt} (h : Good S W xs) : 0 < S := by have := h.sets; omega
theorem Good.s8 {S W : Nat} {xs : List Slt} (h : Good S W xs) : S ≤ 8 := by have := h.sets; omega
theorem Good.set_lt {S W : Nat} {xs : List Slt} (h : Good S W xs) (li : Int) : setOf S li < S := Nat.mod_lt _ h.spos
theorem Good.len64 {S W : Nat} {xs : List Slt} (h : Good S W xs) : xs.length ≤ 64 := by
  rw [h.len]; exact Nat.mul_le_mul h.s8 h.way8
theorem Good.seg_len {S W : Nat} {xs : List Slt} (h : Good S W xs) (li : Int) : (seg W xs (setOf S li)).length = W := seg_length h.len (h.set_lt li)
theorem Good.fit {S W : Nat} {xs : List Slt} (h : Good S W xs) (li : Int) : setOf S li * W + W ≤ S * W := mul_lt_of (h.set_lt li)
theorem div_of {i t k W : Nat} (hk : k < W) (h : i = t * W + k) : i / W = t := by
  subst h
  rw [Nat.mul_comm, Nat.mul_add_div (by omega), Nat.div_eq_of_lt hk, Nat.add_zero]
theorem mod_of {i t W : Nat} (hw : 0 < W) (h : i / W = t) : ∃ k, k < W ∧ i = t * W + k := by
  refine ⟨i % W, Nat.mod_lt _ hw, ?_⟩
  subst h
  have := Nat.div_add_mod i W
  rw [Nat.mul_comm] at this
  omega
/-- Where a line stands among all slots is where it stands in its set. -/
theorem Good.where {S W : Nat} {xs : List Slt} (h : Good S W xs) (li : Int) :
    (∃ (k : Nat) (y : Slt), (seg W xs (setOf S li)).findIdx (pLine li) = k ∧ xs.findIdx (pLine li) = setOf S li * W + k ∧ k < W ∧ xs[setOf S li * W + k]? = some y ∧ y.st ≠ 0 ∧ y.li = li ∧ 0 ≤ li ∧ hit (pLine li) (seg W xs (setOf S li)) = (k : Int) ∧ hit (pLine li) xs = ((setOf S li * W + k : Nat) : Int) ∧ setOf S li * W + k < xs.length) ∨
    (hit (pLine li) (seg W xs (setOf S li)) = -1 ∧ hit (pLine li) xs = -1 ∧ xs.findIdx (pLine li) = xs.length ∧ ∀ x ∈ xs, pLine li x = false) := by
  rcases hit_or (pLine li) xs with ⟨i, y, e1, e2, e3, e4, e5, e6⟩ | ⟨e1, e2, e3⟩
  · obtain ⟨h1, h2⟩ := pLine_yes e4
    obtain ⟨h3, h4⟩ := h.home i y e3 h1
    rw [h2] at h3 h4
    obtain ⟨k, hk, rfl⟩ := mod_of (by have := h.way1; omega) h4
    have hs : (seg W xs (setOf S li))[k]? = some y := by rw [seg_get _ _ _ hk]; exact e3
    have hb : ∀ x ∈ (seg W xs (setOf S li)).take k, pLine li x = false := by
      intro x hx
      obtain ⟨j, hj, rfl⟩ := List.mem_take_iff_getElem.1 hx
      have hjk : j < k := by omega
      have hjl : j < (seg W xs (setOf S li)).length := by omega
      have hxj : (seg W xs (setOf S li))[j]? = some (seg W xs (setOf S li))[j] := List.getElem?_eq_getElem hjl
      rw [seg_get _ _ _ (by omega)] at hxj
      obtain ⟨hl, he⟩ := List.getElem?_eq_some_iff.1 hxj
      exact e6 _ (List.mem_take_iff_getElem.2 ⟨setOf S li * W + j, by omega, he⟩)
    exact .inl ⟨k, y, findIdx_hit hs e4 hb, e2, hk, e3, h1, h2, h3, hit_at hs e4 hb, e1, e5⟩
  · refine .inr ⟨hit_none ?_, e1, e2, e3⟩
    intro x hx
    exact e3 x (List.mem_of_mem_drop (List.mem_of_mem_take hx))
/-- The first empty slot of a line's set. -/
theorem Good.room {S W : Nat} {xs : List Slt} (h : Good S W xs) (li : Int) :
    (∃ (k : Nat) (y : Slt), (seg W xs (setOf S li)).findIdx pFree = k ∧ k < W ∧ xs[setOf S li * W + k]? = some y ∧ y.st = 0 ∧ hit pFree (seg W xs (setOf S li)) = (k : Int) ∧ setOf S li * W + k < xs.length ∧ ∀ x ∈ (seg W xs (setOf S li)).take k, pFree x = false) ∨
    (hit pFree (seg W xs (setOf S li)) = -1 ∧ (seg W xs (setOf S li)).findIdx pFree = W ∧ ∀ x ∈ seg W xs (setOf S li), x.st ≠ 0) := by
  have hl := h.seg_len li
  rcases hit_or pFree (seg W xs (setOf S li)) with ⟨k, y, e1, e2, e3, e4, e5, e6⟩ | ⟨e1, e2, e3⟩
  · have hk : k < W := by omega
    rw [seg_get _ _ _ hk] at e3
    exact .inl ⟨k, y, e2, hk, e3, by simpa [pFree] using e4, e1, (List.getElem?_eq_some_iff.1 e3).1, e6⟩
  · refine .inr ⟨e1, by omega, fun x hx => ?_⟩
    simpa [pFree] using e3 x hx

/-! ### What each call answers, and leaves -/
/-- Where a line stands, or would. -/
def place (S W : Nat) (xs : List Slt) (li : Int) : Nat :=
  if xs.findIdx (pLine li) < xs.length then xs.findIdx (pLine li) else if (seg W xs (setOf S li)).findIdx pFree < W then setOf S li * W + (seg W xs (setOf S li)).findIdx pFree else xs.length
def badSet (li st : Int) : Prop := li < 0 ∨ st < 1 ∨ 9 < st
instance (li st : Int) : Decidable (badSet li st) := inferInstanceAs (Decidable (_ ∨ _ ∨ _))
def setVal (S W : Nat) (xs : List Slt) (li st : Int) : Int := if badSet li st then 1 else if place S W xs li < xs.length then 0 else 13
def setXs (S W : Nat) (xs : List Slt) (u li st : Int) (l : List Int) (h : l.length = 8) : List Slt := if badSet li st then xs else xs.set (place S W xs li) ⟨st, li, l, u + 1, h⟩
def setU (S W : Nat) (xs : List Slt) (u li st : Int) : Int := if badSet li st then u else if place S W xs li < xs.length then u + 1 else u
def Slt.use (x : Slt) (u : Int) : Slt := ⟨x.st, x.li, x.l, u, x.h⟩
def touchXs (xs : List Slt) (u li : Int) : List Slt := match xs[xs.findIdx (pLine li)]? with | some x => xs.set (xs.findIdx (pLine li)) (x.use (u + 1)) | none => xs
def touchU (xs : List Slt) (u li : Int) : Int := if xs.findIdx (pLine li) < xs.length then u + 1 else u
def dropVal (xs : List Slt) (li : Int) : Bool := decide (xs.findIdx (pLine li) < xs.length)
def dropXs (xs : List Slt) (li : Int) : List Slt := xs.set (xs.findIdx (pLine li)) sltZ
def findVal (xs : List Slt) (li : Int) : Slt := match xs[xs.findIdx (pLine li)]? with | some x => x | none => sltZ
def roomFree (S W : Nat) (xs : List Slt) (li : Int) : Bool := decide (0 ≤ li) && decide ((seg W xs (setOf S li)).findIdx pFree < W)
def roomVic (S W : Nat) (xs : List Slt) (li : Int) : Int := if li < 0 then -1 else if (seg W xs (setOf S li)).findIdx pFree < W then -1 else eld (seg W xs (setOf S li))
/-- Those that are not empty. -/
def live (xs : List Slt) : List Slt := xs.filter (fun x => x.st != 0)

theorem set_none {α : Type} (xs : List α) (a : α) : xs.set xs.length a = xs := List.set_eq_of_length_le (Nat.le_refl _)
theorem Good.put {S W : Nat} {xs : List Slt} (h : Good S W xs) (k : Nat) (x : Slt) (hx : x.st ≠ 0 → 0 ≤ x.li ∧ k / W = setOf S x.li) : Good S W (xs.set k x) := by
  refine ⟨h.sets, h.way1, h.way8, by rw [List.length_set, h.len], fun i y hy h0 => ?_⟩
  rw [List.getElem?_set] at hy
  split at hy
  · rename_i e
    subst e
    split at hy
    · injection hy with hy; subst hy; exact hx h0
    · cases hy
  · exact h.home i y hy h0
theorem Good.setXs {S W : Nat} {xs : List Slt} (h : Good S W xs) (u li st : Int) (l : List Int) (hl : l.length = 8) : Good S W (setXs S W xs u li st l hl) := by
  unfold Go.Proofs.YtadeoflkppiflaaGreatDoor.setXs
  split
  · exact h
  · rename_i hb
    have h0 : 0 ≤ li := by unfold badSet at hb; omega
    unfold place
    rcases h.where li with ⟨k, y, e1, e2, e3, e4, e5, e6, e7, e8, e9, e10⟩ | ⟨e1, e2, e3, e4⟩
    · rw [if_pos (by omega), e2]
      exact h.put _ _ (fun _ => ⟨h0, div_of e3 rfl⟩)
    · rw [if_neg (by omega)]
      split
      · rename_i h2
        exact h.put _ _ (fun _ => ⟨h0, div_of h2 rfl⟩)
      · rw [set_none]; exact h
theorem Good.touchXs {S W : Nat} {xs : List Slt} (h : Good S W xs) (u li : Int) : Good S W (touchXs xs u li) := by
  unfold Go.Proofs.YtadeoflkppiflaaGreatDoor.touchXs
  split
  · rename_i x hx
    exact h.put _ _ (fun h0 => h.home _ x hx h0)
  · exact h
theorem Good.dropXs {S W : Nat} {xs : List Slt} (h : Good S W xs) (li : Int) : Good S W (dropXs xs li) := h.put _ _ (fun h0 => absurd rfl h0)
theorem setU_le {S W : Nat} {xs : List Slt} {u li st : Int} : u ≤ setU S W xs u li st ∧ setU S W xs u li st ≤ u + 1 := by
  unfold setU; split <;> (try split) <;> omega
theorem touchU_le {xs : List Slt} {u li : Int} : u ≤ touchU xs u li ∧ touchU xs u li ≤ u + 1 := by
  unfold touchU; split <;> omega
/-- Slots of nothing. -/
theorem Good.new {S W : Nat} (h1 : S = 1 ∨ S = 2 ∨ S = 4 ∨ S = 8) (h2 : 1 ≤ W) (h3 : W ≤ 8) : Good S W (List.replicate (S * W) sltZ) := by
  refine ⟨h1, h2, h3, by simp, fun i x hx h0 => ?_⟩
  rw [List.getElem?_replicate] at hx
  split at hx
  · injection hx with hx; subst hx; exact absurd rfl h0
  · cases hx
theorem live_take {xs : List Slt} {k : Nat} {x : Slt} (h : xs[k]? = some x) : live (xs.take (k + 1)) = live (xs.take k) ++ (if x.st = 0 then [] else [x]) := by
  obtain ⟨hk, rfl⟩ := List.getElem?_eq_some_iff.1 h
  unfold live
  rw [List.take_succ_eq_append_getElem hk, List.filter_append]
  congr 1
  split <;> simp [*]
theorem live_le (xs : List Slt) : (live xs).length ≤ xs.length := List.length_filter_le _ _
/-! ### Slot k in its block -/
section
variable {xs : List Slt} {k : Nat} {x : Slt} (h : xs[k]? = some x) (r : List Value) (t : TypeId) (f : Nat × Nat)
include h
theorem slt_row : rowPart (some (.cells (sq Slt.enc xs r) t f)) (k * 11) 11 = slc x := by
  have := rowPart_sq Slt.len h r t f 0 11 (by omega)
  rw [Nat.add_zero] at this
  rw [this]
  simp [slc, Slt.len, List.take_of_length_le]
theorem slt_rowIn : rowIn (some (.cells (sq Slt.enc xs r) t f)) (k * 11) 11 = true := rowIn_sq Slt.len (List.getElem?_eq_some_iff.1 h).1 r t f 0 11 (by omega)
theorem slt_us : (sq Slt.enc xs r)[k * 11 + 10]? = some (.int .i64 x.us) := by
  rw [sq_cell Slt.len h r 10 (by omega), enc_us]
theorem slt_has : rowHas (some (.cells (sq Slt.enc xs r) t (0, 0))) (k * 11) 11 = true := by
  have hk := (List.getElem?_eq_some_iff.1 h).1
  have := mul_lt_of (k := 11) hk
  rw [rowHas_some, sq_size Slt.len]
  exact decide_eq_true (show _ ≤ _ by omega)
theorem slt_put (y : Slt) : rowPut (some (.cells (sq Slt.enc xs r) t f)) (k * 11) (slc y) = some (.cells (sq Slt.enc (xs.set k y) r) t f) := by
  have hk := (List.getElem?_eq_some_iff.1 h).1
  have := mul_lt_of (k := 11) hk
  have e : splice xs k [y] = xs.set k y := by unfold splice; rw [List.set_eq_take_append_cons_drop, if_pos hk]; simp
  rw [rowPut_some, sq_toList, ← e]
  unfold slc sq
  rw [List.toList_toArray, splice_append _ _ _ _ (by rw [Slt.len, cat_length Slt.len]; omega)]
  have := cat_splice Slt.len xs [y] k
  rw [cat_one] at this
  rw [this]
theorem slt_use (u : Int) : (sq Slt.enc xs r).setIfInBounds (k * 11 + 10) (.int .i64 u) = sq Slt.enc (xs.set k (x.use u)) r := by
  have hk := (List.getElem?_eq_some_iff.1 h).1
  have hm := mul_lt_of (k := 11) hk
  have h8 : x.l.length = 8 := x.h
  have e2 : (Slt.enc x).set 10 (.int .i64 u) = Slt.enc (x.use u) := by
    unfold Slt.enc Slt.use
    rw [List.set_cons_succ, List.set_cons_succ, List.set_append_right _ _ (by simp [h8])]
    simp [h8]
  have hl := cat_length Slt.len xs
  have ho := slt_put h r 3 (0, 0) (x.use u)
  rw [rowPut_some] at ho
  injection ho with ho
  injection ho with ho
  rw [← ho]
  apply Array.toList_inj.1
  rw [Array.toList_setIfInBounds, List.toList_toArray]
  apply List.ext_getElem?
  intro j
  have hxs : ∀ d, d < 11 → (sq Slt.enc xs r).toList[k * 11 + d]? = (Slt.enc x)[d]? := by
    intro d hd
    have := sq_cell Slt.len h r d hd
    rwa [← Array.getElem?_toList] at this
  have hsz : (sq Slt.enc xs r).toList.length = xs.length * 11 + r.length := by rw [Array.length_toList, sq_size Slt.len]
  rw [getElem?_splice _ _ _ _ (by rw [hsz]; unfold slc; rw [List.toList_toArray, Slt.len]; omega)]
  have hs11 : (slc (x.use u)).toList.length = 11 := by rw [Array.length_toList, slc_size]
  rw [hs11, List.getElem?_set]
  by_cases hj : k * 11 + 10 = j
  · subst hj
    rw [if_pos rfl, if_pos (by rw [hsz]; omega), if_neg (by omega), if_pos (by omega), show k * 11 + 10 - k * 11 = 10 by omega]
    unfold slc
    rw [List.toList_toArray, enc_us]; rfl
  · rw [if_neg hj]
    split
    · rfl
    · split
      · obtain ⟨d, rfl⟩ : ∃ d, j = k * 11 + d := ⟨j - k * 11, by omega⟩
        rw [hxs d (by omega), show k * 11 + d - k * 11 = d by omega]
        unfold slc
        rw [List.toList_toArray, ← e2, List.getElem?_set_ne (by omega)]
      · rfl
end
theorem made_slots (n : Nat) : madeCells sltV.cells (n * 11) = sq Slt.enc (List.replicate n sltZ) [] := by
  apply Array.ext
  · rw [sq_size Slt.len]; simp [madeCells]
  · intro i h1 h2
    have hi : i < n * 11 := by simpa [madeCells] using h1
    obtain ⟨k, d, hk, hd, rfl⟩ : ∃ k d, k < n ∧ d < 11 ∧ i = k * 11 + d := ⟨i / 11, i % 11, by omega, Nat.mod_lt _ (by omega), by omega⟩
    have h3 : (List.replicate n sltZ)[k]? = some sltZ := by rw [List.getElem?_replicate, if_pos hk]
    have h4 := sq_cell Slt.len h3 [] d hd
    rw [Array.getElem?_eq_getElem h2] at h4
    have e11 : sltV.cells.size = 11 := rfl
    have hmod : (k * 11 + d) % 11 = d := by omega
    simp only [madeCells, Array.getElem_map, Array.getElem_range]
    have h5 : (sltV.cells)[d]? = (Slt.enc sltZ)[d]? := by rw [show sltV.cells = (Slt.enc sltZ).toArray from rfl, List.getElem?_toArray]
    rw [← h4, Array.getElem?_eq_getElem (by rw [e11]; exact hd)] at h5
    rw [e11, hmod, getElem!_pos sltV.cells d (by rw [e11]; exact hd)]
    exact Option.some.inj h5
end Go.Proofs.YtadeoflkppiflaaGreatDoor
end
section
namespace Go.Proofs.YtadeoflkppiflaaGreatDoor
open Go.RowKit
set_option linter.unusedVariables false
set_option maxHeartbeats 1000000

/-- Slots, and how often they were used. -/
abbrev Sta := List Slt × Int
def zl8 : List Int := [0, 0, 0, 0, 0, 0, 0, 0]
def mayR (st : Int) : Bool := atRest st || st == 6
def mayWr (st : Int) : Bool := st == 2 || st == 3
def isLn (li : Int) : Bool := decide (0 ≤ li) && decide (li < 64)
def isWd (k : Int) : Bool := decide (0 ≤ k) && decide (k < 8)
def restB (x : Slt) : Bool := x.st == 0 || atRest x.st
/-- Nothing is on its way. -/
def idleB (xs : List Slt) : Bool := xs.all restB
def ownsB (xs : List Slt) (li : Int) : Bool := mayWr (findVal xs li).st
/-- A message of a slot's line, with its words, if these were written here. -/
def toldM (kd : Int) (x : Slt) (ke : Bool) : Ms := if x.st = 3 ∨ x.st = 9 then ⟨kd, x.li, true, ke, x.l, x.h⟩ else ms4 kd x.li false ke
/-- What a message of a kind makes of a slot in a state. -/
def tb (kd st : Int) : Int :=
  if kd = 8 then (if st = 4 then 1 else 0)
  else if kd = 9 then (if st = 4 then 2 else 0)
  else if kd = 10 then (if st = 5 ∨ st = 6 then 2 else 0)
  else if kd = 11 then (if st = 7 ∨ st = 8 ∨ st = 9 then 10 else 0)
  else if kd = 12 then (if st = 1 ∨ st = 2 ∨ st = 3 then 10 else if st = 6 then 5 else if st = 7 ∨ st = 9 then 8 else 0)
  else if kd = 13 then (if st = 2 ∨ st = 3 then 1 else if st = 7 ∨ st = 9 then 8 else 0)
  else if kd = 14 then 11 else 0
def wordsL (m : Ms) (x : Slt) (nx : Int) : List Int := if nx = 5 ∨ nx = 8 then zl8 else if m.kd = 13 then x.l else m.l
theorem wordsL_len (m : Ms) (x : Slt) (nx : Int) : (wordsL m x nx).length = 8 := by
  unfold wordsL
  split
  · rfl
  · split
    · exact x.h
    · exact m.h
def answersL (kd : Int) (x : Slt) (nx : Int) : List Ms := if kd = 12 then [toldM 6 x false] else if kd = 13 then [toldM 7 x (nx == 1)] else []
section
variable (S N : Nat)
def setS (s : Sta) (li st : Int) (l : List Int) (h : l.length = 8) : Sta := (setXs S N s.1 s.2 li st l h, setU S N s.1 s.2 li st)
def touchS (s : Sta) (li : Int) : Sta := (touchXs s.1 s.2 li, touchU s.1 s.2 li)
def dropS (s : Sta) (li : Int) : Sta := (dropXs s.1 li, s.2)
def outNx (st : Int) : Int := if st = 3 then 9 else 7
def outF (s : Sta) (li : Int) : Sta × List Ms :=
  if atRest (findVal s.1 li).st = true then (setS S N s li (outNx (findVal s.1 li).st) (findVal s.1 li).l (findVal s.1 li).h, [toldM 3 (findVal s.1 li) false]) else (s, [])
def getF (s : Sta) (li st kd : Int) : Sta × List Ms :=
  if roomFree S N s.1 li = true then (setS S N s li st zl8 rfl, [ms4 kd li false false]) else outF S N s (roomVic S N s.1 li)
def loadF (s : Sta) (li k : Int) : Sta × (Int × Bool × List Ms) :=
  if (isLn li && isWd k) = true then
    (if mayR (findVal s.1 li).st = true then (touchS s li, ((findVal s.1 li).l.getD k.toNat 0, true, []))
     else if idleB s.1 = true then ((getF S N s li 4 1).1, (0, false, (getF S N s li 4 1).2)) else (s, (0, false, [])))
  else (s, (0, false, []))
def reachF (s : Sta) (li : Int) : Sta × List Ms :=
  if (isLn li && !ownsB s.1 li && idleB s.1) = true then
    (if dropVal s.1 li = true then (setS S N s li 6 (findVal s.1 li).l (findVal s.1 li).h, [ms4 2 li false false]) else getF S N s li 5 2)
  else (s, [])
def storeF (s : Sta) (li k v : Int) : Sta × (Bool × List Ms) :=
  if (isLn li && isWd k) = true then
    (if ownsB s.1 li = true then (setS S N s li 3 ((findVal s.1 li).l.set k.toNat v) (by rw [List.length_set]; exact (findVal s.1 li).h), (true, []))
     else ((reachF S N s li).1, (false, (reachF S N s li).2)))
  else (s, (false, []))
def evictF (s : Sta) (li : Int) : Sta × (List Ms × Int) :=
  if idleB s.1 = true then ((outF S N s li).1, ((outF S N s li).2, if (outF S N s li).2 = [] then 14 else 0)) else (s, ([], 15))
def hearX (s : Sta) (m : Ms) (nx : Int) : Sta := if nx = 10 then dropS s m.li else if nx = 11 then s else setS S N s m.li nx (wordsL m (findVal s.1 m.li) nx) (wordsL_len _ _ _)
def hearF (s : Sta) (m : Ms) : Sta × (List Ms × Int) :=
  if (mg m && tellsB m.kd) = true then
    (if tb m.kd (findVal s.1 m.li).st = 0 then (s, ([], 16))
     else (hearX S N s m (tb m.kd (findVal s.1 m.li).st), (answersL m.kd (findVal s.1 m.li) (tb m.kd (findVal s.1 m.li).st), 0)))
  else (s, ([], 1))
end

/-! ### Parts of a message, and of a slot, that are written -/
def Ms.putDi (m : Ms) (b : Bool) : Ms := ⟨m.kd, m.li, b, m.ke, m.l, m.h⟩
def Ms.putKe (m : Ms) (b : Bool) : Ms := ⟨m.kd, m.li, m.di, b, m.l, m.h⟩
def Ms.putL (m : Ms) (l : List Int) (h : l.length = 8) : Ms := ⟨m.kd, m.li, m.di, m.ke, l, h⟩
def Slt.putL (x : Slt) (l : List Int) (h : l.length = 8) : Slt := ⟨x.st, x.li, l, x.us, h⟩
theorem ms4_k (a b : Int) (d e : Bool) (k : Int) : (msc (ms4 a b d e)).setIfInBounds 0 (.int .i64 k) = msc (ms4 k b d e) := by simp [msc, Ms.enc, ms4]
theorem ms4_l (a b : Int) (d e : Bool) (k : Int) : (msc (ms4 a b d e)).setIfInBounds 1 (.int .i64 k) = msc (ms4 a k d e) := by simp [msc, Ms.enc, ms4]
theorem ms4_e (a b : Int) (d e : Bool) (k : Bool) : (msc (ms4 a b d e)).setIfInBounds 3 (.bool k) = msc (ms4 a b d k) := by simp [msc, Ms.enc, ms4]
theorem msc_putDi (m : Ms) (b : Bool) : (msc m).setIfInBounds 2 (.bool b) = msc (m.putDi b) := by simp [msc, Ms.enc, Ms.putDi]
theorem msc_putKe (m : Ms) (b : Bool) : (msc m).setIfInBounds 3 (.bool b) = msc (m.putKe b) := by simp [msc, Ms.enc, Ms.putKe]
theorem msc_put (m : Ms) (l : List Int) (h : l.length = 8) (t : TypeId) (f : Nat × Nat) : rowPut (some (.cells (msc m) t f)) 4 (vs l) = some (.cells (msc (m.putL l h)) t f) := by
  rw [rowPut_some]
  have hm := m.h
  simp [msc, Ms.enc, Ms.putL, vs, splice, h, hm]
theorem msc_putX (m : Ms) (x : Slt) (t : TypeId) (f : Nat × Nat) : rowPut (some (.cells (msc m) t f)) 4 (vs x.l) = some (.cells (msc (m.putL x.l x.h)) t f) := msc_put m x.l x.h t f
theorem msc_has (m : Ms) (t : TypeId) : rowHas (some (.cells (msc m) t (0, 0))) 4 8 = true := by
  rw [rowHas_some, msc_size]; exact decide_eq_true (show 4 + 8 ≤ 12 by omega)
theorem slc_word (x : Slt) (k : Nat) (h : k < 8) : (slc x)[2 + k]? = some (.int .u64 (x.l.getD k 0)) := by
  have h8 : x.l.length = 8 := x.h
  unfold slc Slt.enc
  rw [List.getElem?_toArray, show 2 + k = k + 1 + 1 by omega, List.getElem?_cons_succ, List.getElem?_cons_succ, List.getElem?_append_left (by simp [h8, h]), List.getElem?_map, List.getD_eq_getElem?_getD, List.getElem?_eq_getElem (by omega)]
  rfl
theorem slc_setWord (x : Slt) (k : Nat) (v : Int) (h : k < 8) : (slc x).setIfInBounds (2 + k) (.int .u64 v) = slc (x.putL (x.l.set k v) (by rw [List.length_set]; exact x.h)) := by
  have h8 : x.l.length = 8 := x.h
  unfold slc Slt.enc Slt.putL
  rw [List.setIfInBounds_toArray, show 2 + k = k + 1 + 1 by omega, List.set_cons_succ, List.set_cons_succ, List.set_append_left _ _ (by simp [h8, h]), List.map_set]

/-! ### What is so of all slots -/
/-- Each state is one that there is. -/
def Sane (xs : List Slt) : Prop := ∀ x ∈ xs, 0 ≤ x.st ∧ x.st ≤ 9
theorem Sane.put {xs : List Slt} (h : Sane xs) (k : Nat) (y : Slt) (hy : 0 ≤ y.st ∧ y.st ≤ 9) : Sane (xs.set k y) := by
  intro x hx
  rcases List.mem_or_eq_of_mem_set hx with h1 | rfl
  · exact h x h1
  · exact hy
theorem Sane.set {S N : Nat} {s : Sta} (h : Sane s.1) (li st : Int) (l : List Int) (hl : l.length = 8) : Sane (setS S N s li st l hl).1 := by
  show Sane (setXs S N s.1 s.2 li st l hl)
  unfold setXs
  split
  · exact h
  · rename_i hb
    exact h.put _ _ (by unfold badSet at hb; show 0 ≤ st ∧ st ≤ 9; omega)
theorem Sane.touch {s : Sta} (h : Sane s.1) (li : Int) : Sane (touchS s li).1 := by
  show Sane (touchXs s.1 s.2 li)
  unfold touchXs
  split
  · rename_i x hx
    exact h.put _ _ (h x (List.mem_of_getElem? hx))
  · exact h
theorem Sane.drop {s : Sta} (h : Sane s.1) (li : Int) : Sane (dropS s li).1 := h.put _ _ (by decide)
theorem Sane.new (n : Nat) : Sane (List.replicate n sltZ) := by
  intro x hx
  rw [List.eq_of_mem_replicate hx]
  decide
/-- What is found is one of them, or none. -/
theorem find_mem (xs : List Slt) (li : Int) : (findVal xs li ∈ xs ∧ pLine li (findVal xs li) = true ∧ dropVal xs li = true) ∨ (findVal xs li = sltZ ∧ dropVal xs li = false ∧ ∀ x ∈ xs, pLine li x = false) := by
  unfold findVal dropVal
  by_cases h : xs.findIdx (pLine li) < xs.length
  · rw [List.getElem?_eq_getElem h]
    exact .inl ⟨List.getElem_mem h, List.findIdx_getElem, by simpa using h⟩
  · rw [List.getElem?_eq_none (by omega)]
    refine .inr ⟨rfl, by simpa using h, fun x hx => ?_⟩
    have e : xs.findIdx (pLine li) = xs.length := Nat.le_antisymm List.findIdx_le_length (by omega)
    simpa using List.findIdx_eq_length.1 e x hx
theorem find_sane {xs : List Slt} (h : Sane xs) (li : Int) : 0 ≤ (findVal xs li).st ∧ (findVal xs li).st ≤ 9 := by
  rcases find_mem xs li with ⟨h1, _⟩ | ⟨h1, _⟩
  · exact h _ h1
  · rw [h1]; decide
theorem find_line {xs : List Slt} {li : Int} (h : (findVal xs li).st ≠ 0) : (findVal xs li).li = li ∧ dropVal xs li = true := by
  rcases find_mem xs li with ⟨_, h1, h2⟩ | ⟨h1, _⟩
  · exact ⟨(pLine_yes h1).2, h2⟩
  · rw [h1] at h; exact absurd rfl h
theorem find_drop {xs : List Slt} {li : Int} : dropVal xs li = ((findVal xs li).st != 0) := by
  rcases find_mem xs li with ⟨_, h1, h2⟩ | ⟨h1, h2, _⟩
  · rw [h2]; have := (pLine_yes h1).1; simp [this]
  · rw [h1, h2]; rfl
theorem idle_find {xs : List Slt} (h : idleB xs = true) (li : Int) : (findVal xs li).st = 0 ∨ atRest (findVal xs li).st = true := by
  rcases find_mem xs li with ⟨h1, _⟩ | ⟨h1, _⟩
  · have := List.all_eq_true.1 h _ h1
    unfold restB at this
    rw [Bool.or_eq_true] at this
    simpa using this
  · left; rw [h1]; rfl
theorem rest_iff (st : Int) : atRest st = true ↔ 1 ≤ st ∧ st ≤ 3 := by unfold atRest; simp
/-- Whose line may go is the line of one at rest. -/
theorem eldS_mem (ys : List Slt) (a : Int × Int) : (ys.foldl eldStep a).1 = a.1 ∨ ∃ x ∈ ys, atRest x.st = true ∧ x.li = (ys.foldl eldStep a).1 := by
  induction ys generalizing a with
  | nil => exact .inl rfl
  | cons y ys ih =>
    rw [List.foldl_cons]
    rcases ih (eldStep a y) with h | ⟨x, h1, h2, h3⟩
    · rw [h]
      unfold eldStep
      split
      · rename_i hc
        rw [Bool.and_eq_true] at hc
        exact .inr ⟨y, List.mem_cons_self .., hc.1, rfl⟩
      · exact .inl rfl
    · exact .inr ⟨x, List.mem_cons_of_mem _ h1, h2, h3⟩
theorem eld_mem {ys : List Slt} (h : 0 ≤ eld ys) : ∃ x ∈ ys, atRest x.st = true ∧ x.li = eld ys := by
  rcases eldS_mem ys (-1, 0) with h1 | h1
  · have : eld ys = -1 := h1
    omega
  · exact h1
theorem seg_mem {N : Nat} {xs : List Slt} {t : Nat} {x : Slt} (h : x ∈ seg N xs t) : x ∈ xs := List.mem_of_mem_drop (List.mem_of_mem_take h)
/-- Where nothing is on its way a line that may go is at rest. -/
theorem eld_rest {N : Nat} {xs : List Slt} {t : Nat} (hi : idleB xs = true) (h : 0 ≤ eld (seg N xs t)) : atRest (findVal xs (eld (seg N xs t))).st = true := by
  obtain ⟨x, h1, h2, h3⟩ := eld_mem h
  rcases idle_find hi (eld (seg N xs t)) with h4 | h4
  · rcases find_mem xs (eld (seg N xs t)) with ⟨_, h5, _⟩ | ⟨_, _, h5⟩
    · exact absurd h4 (pLine_yes h5).1
    · have := h5 x (seg_mem h1)
      unfold pLine at this
      rw [h3] at this
      have h6 := (rest_iff x.st).1 h2
      simp at this
      omega
  · exact h4
/-- The table's bounds. -/
theorem tb_le (kd st : Int) : 0 ≤ tb kd st ∧ tb kd st ≤ 11 := by
  unfold tb
  repeat' split
  all_goals omega
theorem tb_line {kd st : Int} (h : tb kd st ≠ 0) (h14 : kd ≠ 14) : st ≠ 0 := by
  rintro rfl
  apply h
  unfold tb
  simp [h14]
/-! ### How often they were used -/
theorem setS_u {S N : Nat} {s : Sta} {li st : Int} {l : List Int} {h : l.length = 8} : s.2 ≤ (setS S N s li st l h).2 ∧ (setS S N s li st l h).2 ≤ s.2 + 1 := setU_le
theorem touchS_u {s : Sta} {li : Int} : s.2 ≤ (touchS s li).2 ∧ (touchS s li).2 ≤ s.2 + 1 := touchU_le
theorem dropS_u {s : Sta} {li : Int} : s.2 ≤ (dropS s li).2 ∧ (dropS s li).2 ≤ s.2 + 1 := by unfold dropS; show s.2 ≤ s.2 ∧ _; omega
theorem outF_u {S N : Nat} {s : Sta} {li : Int} : s.2 ≤ (outF S N s li).1.2 ∧ (outF S N s li).1.2 ≤ s.2 + 1 := by
  unfold outF; split
  · exact setS_u
  · show s.2 ≤ s.2 ∧ s.2 ≤ s.2 + 1; omega
theorem getF_u {S N : Nat} {s : Sta} {li st kd : Int} : s.2 ≤ (getF S N s li st kd).1.2 ∧ (getF S N s li st kd).1.2 ≤ s.2 + 1 := by
  unfold getF; split
  · exact setS_u
  · exact outF_u
theorem same_u {s : Sta} : s.2 ≤ s.2 ∧ s.2 ≤ s.2 + 1 := by omega
theorem loadF_u {S N : Nat} {s : Sta} {li k : Int} : s.2 ≤ (loadF S N s li k).1.2 ∧ (loadF S N s li k).1.2 ≤ s.2 + 1 := by
  unfold loadF; split
  · split
    · exact touchS_u
    · split
      · exact getF_u
      · exact same_u
  · exact same_u
theorem reachF_u {S N : Nat} {s : Sta} {li : Int} : s.2 ≤ (reachF S N s li).1.2 ∧ (reachF S N s li).1.2 ≤ s.2 + 1 := by
  unfold reachF; split
  · split
    · exact setS_u
    · exact getF_u
  · exact same_u
theorem storeF_u {S N : Nat} {s : Sta} {li k v : Int} : s.2 ≤ (storeF S N s li k v).1.2 ∧ (storeF S N s li k v).1.2 ≤ s.2 + 1 := by
  unfold storeF; split
  · split
    · exact setS_u
    · exact reachF_u
  · exact same_u
theorem evictF_u {S N : Nat} {s : Sta} {li : Int} : s.2 ≤ (evictF S N s li).1.2 ∧ (evictF S N s li).1.2 ≤ s.2 + 1 := by
  unfold evictF; split
  · exact outF_u
  · exact same_u
theorem hearF_u {S N : Nat} {s : Sta} {m : Ms} : s.2 ≤ (hearF S N s m).1.2 ∧ (hearF S N s m).1.2 ≤ s.2 + 1 := by
  unfold hearF; split
  · split
    · exact same_u
    · show s.2 ≤ (hearX S N s m _).2 ∧ (hearX S N s m _).2 ≤ s.2 + 1
      unfold hearX
      split
      · exact dropS_u
      · split
        · exact same_u
        · exact setS_u
  · exact same_u
end Go.Proofs.YtadeoflkppiflaaGreatDoor
end
section
namespace Go.Proofs.YtadeoflkppiflaaGreatDoor
open Go.RowKit
set_option linter.unusedVariables false
theorem wideSlot : Wide Tryz.prog 54 11 := ⟨⟨_, Tryz.underlying54, by rfl⟩, by kernel_rfl⟩
theorem loadSlot (x : Value) : Instr.loadAt 54 x = loadS 54 11 x := rfl
theorem storeSlot (x y : Value) : Instr.storeAt 54 x y = storeS 54 11 x y := rfl
attribute [local go_sem ↓] append_appS copy_copS clear_clrS make_mkS cell_row frozen_row loadLine storeLine loadSlot storeSlot heap_drew heap_drewN heap_alloc heap_past heap_setCell heap_putRow vs_get slc_st slc_li slc_us
attribute [local go_sem] rowCell_some rowFrozen_some rowHas_some rowIn_some rowPart_full rowPart_lit rowPut_full rowPut_lit rowSet_some size_putRow vs_size vs_one wideLine wideSlot run_loadS run_storeS run_appS run_copS run_clrS run_mkS loadW_at storeW_at fit_all fit_le one_int one_bool one_pointer one_slice allOne_list putRow_new ne_size1 ne_size2 ne_size3 ne_size4 zero8_length lines_nil line_eq lit8 slc_size slc_one slc_part slc_in
attribute [local simp ↓] heap_drew heap_drewN heap_alloc heap_past heap_setCell heap_putRow
attribute [local simp] rowCell_some rowFrozen_some rowHas_some rowIn_some rowPart_full rowPart_lit rowPut_full rowPut_lit rowSet_some size_putRow vs_size fit_all putRow_new ne_size1 ne_size2 ne_size3 ne_size4 zero8_length slc_size

theorem slot_info : (Tryz.prog.info? 54).map (fun i => (i.zero, i.size, i.bytes)) = some (some sltV, 11, 88) := by kernel_rfl
theorem eltSlot : Elt Tryz.prog 51 54 11 88 sltV Slt.enc where
  slice := Tryz.underlying51
  info := slot_info
  zero := sltV_size
  zone := sltV_one
  pos := by omega
  len := Slt.len
  one := Slt.one

/-- A callee that changes nothing, within a region that only reads. -/
theorem quiet_same {P : Program} {f : FuncId} {args : Array Value} {w : World} {n : Nat} {v : Value} (h : Calls P f args (w.drewN n) fun e w' => e = .returned v ∧ w.drewN n = w') : Calls P f args (w.drewN n) fun e w'' => e = .returned v ∧ ∃ m, w'' = w.drewN m :=
  h.mono fun _ _ ⟨he, hm⟩ => ⟨he, n, hm.symm⟩

/-! ### Sets -/
theorem geomSet_ok (S : Nat) (li : Int) (w : World) (h : S = 1 ∨ S = 2 ∨ S = 4 ∨ S = 8) (h0 : 0 ≤ li) : Calls Tryz.prog 224 #[.int .i64 S, .int .i64 li] w fun e w' => e = .returned (.int .i64 (setOf S li)) ∧ w = w' := by
  obtain ⟨m, rfl⟩ := Int.eq_ofNat_of_zero_le h0
  have t1 : decide ((m : Int) < 0) = false := by simp
  unfold setOf
  rw [Int.toNat_natCast]
  rcases h with rfl | rfl | rfl | rfl
  all_goals
    go_enter Tryz.func224, Tryz.ntmps224
    go_wp2
    go_ret
    exact ⟨by first | rfl | (simp; done) | (simp; omega) | trace_state, rfl⟩
theorem isSets_yes (S : Nat) (w : World) (h : S = 1 ∨ S = 2 ∨ S = 4 ∨ S = 8) : Calls Tryz.prog 215 #[.int .i64 S] w fun e w' => e = .returned (.bool true) ∧ w = w' := by
  rcases h with rfl | rfl | rfl | rfl
  all_goals
    go_enter Tryz.func215, Tryz.ntmps215
    go_wp2
    go_ret
    exact ⟨rfl, rfl⟩
theorem atRest_ok (s : Int) (w : World) : Calls Tryz.prog 232 #[.int .i64 s] w fun e w' => e = .returned (.bool (atRest s)) ∧ w = w' := by
  by_cases h : s = 1 ∨ s = 2 ∨ s = 3
  · rcases h with rfl | rfl | rfl
    all_goals
      go_enter Tryz.func232, Tryz.ntmps232
      go_wp2
      go_ret
      exact ⟨rfl, rfl⟩
  · have t1 : (s == 1) = false := by simp; omega
    have t2 : (s == 2) = false := by simp; omega
    have t3 : (s == 3) = false := by simp; omega
    have hr : atRest s = false := by unfold atRest; simp; omega
    rw [hr]
    go_enter Tryz.func232, Tryz.ntmps232
    go_wp2
    go_ret
    exact ⟨rfl, rfl⟩

/-! ### Searched -/
theorem wayOf_ok (A : Option Addr) (n c : Nat) (li : Int) (ys : List Slt) (w : World) (h : Sl w 11 A n (cat Slt.enc ys)) (hn : n = ys.length) (hn8 : n ≤ 100000) :
    Calls Tryz.prog 195 #[.slice A n c, .int .i64 li] w fun e w' => e = .returned (.int .i64 (hit (pLine li) ys)) ∧ Chg [] w w' := by
  have H := Lib.hid h
  have HN := Lib.hid hn
  clear h hn
  go_enter Tryz.func195, Tryz.ntmps195
  go_wp2
  go_loopw [9] (fun i wr => ∃ k : Nat, k ≤ n ∧ i = .int .i64 k ∧ Chg [] w wr ∧ ∀ x ∈ ys.take k, pLine li x = false) (fun i _ => n - (intOf i).toNat)
  case atStart => exact ⟨0, by omega, rfl, Chg.refl _ _, by simp⟩
  case round =>
    obtain ⟨k, hk, rfl, hc, hno⟩ := hrel
    have HC := Lib.hid hc
    have HNO := Lib.hid hno
    clear hno hc
    by_cases hlt : k < n
    · obtain ⟨b, o, rfl⟩ := H.out.addr (by omega)
      obtain ⟨y, hy⟩ : ∃ y, ys[k]? = some y := ⟨ys[k]'(by rw [← HN.out]; exact hlt), List.getElem?_eq_getElem _⟩
      obtain ⟨cs, t, f, hb, hce, hpa⟩ := (H.out.chg HC.out (by simp)).elem (by omega) hlt (cat_part Slt.len hy)
      obtain ⟨r1, r2⟩ := hpa 0 11 (by omega)
      have e11 : ((Slt.enc y).drop 0 |>.take 11).toArray = slc y := by rw [List.drop_zero, List.take_of_length_le (by rw [Slt.len]; exact Nat.le_refl _)]; rfl
      rw [e11, Nat.add_zero] at r2
      rw [Nat.add_zero] at r1
      have g1 : (k : Int) < (n : Int) := by omega
      have g0 : (0 : Int) ≤ (k : Int) := by omega
      have g2 : (n : Int) ≤ 100000 := by omega
      have HY := Lib.hid hy
      clear hy hce hpa e11
      by_cases hs : y.st = 0
      · have t1 : (y.st != 0) = false := by simp [hs]
        have t1' : (y.st == 0) = true := by simp [hs]
        have HP := Lib.hid (take_all HY.out (show pLine li y = false by simp [pLine, hs]) HNO.out)
        go_wp2
        go_roundw
        case rel => exact ⟨k + 1, by omega, by go_num, HC.out.alloc _, HP.out⟩
        case measure => simp [intOf]; omega
      · have t1 : (y.st != 0) = true := by simp [hs]
        have t1' : (y.st == 0) = false := by simp [hs]
        by_cases hli : y.li = li
        · have t2 : (y.li == li) = true := by simp [hli]
          have HP := Lib.hid (hit_at HY.out (show pLine li y = true by simp [pLine, hs, hli]) HNO.out)
          go_wp2
          go_ret
          exact ⟨by rw [HP.out]; rfl, HC.out.alloc _⟩
        · have t2 : (y.li == li) = false := by simp [hli]
          have HP := Lib.hid (take_all HY.out (show pLine li y = false by simp [pLine, hs, hli]) HNO.out)
          go_wp2
          go_roundw
          case rel => exact ⟨k + 1, by omega, by go_num, HC.out.alloc _, HP.out⟩
          case measure => simp [intOf]; omega
    · obtain rfl : k = n := by omega
      go_wp2
      go_ret
      exact ⟨by rw [hit_none (by have := HNO.out; rw [HN.out, List.take_length] at this; exact this)]; rfl, HC.out⟩
theorem emptyWay_ok (A : Option Addr) (n c : Nat) (ys : List Slt) (w : World) (h : Sl w 11 A n (cat Slt.enc ys)) (hn : n = ys.length) (hn8 : n ≤ 100000) :
    Calls Tryz.prog 200 #[.slice A n c] w fun e w' => e = .returned (.int .i64 (hit pFree ys)) ∧ Chg [] w w' := by
  have H := Lib.hid h
  have HN := Lib.hid hn
  clear h hn
  go_enter Tryz.func200, Tryz.ntmps200
  go_wp2
  go_loopw [7] (fun i wr => ∃ k : Nat, k ≤ n ∧ i = .int .i64 k ∧ Chg [] w wr ∧ ∀ x ∈ ys.take k, pFree x = false) (fun i _ => n - (intOf i).toNat)
  case atStart => exact ⟨0, by omega, rfl, Chg.refl _ _, by simp⟩
  case round =>
    obtain ⟨k, hk, rfl, hc, hno⟩ := hrel
    have HC := Lib.hid hc
    have HNO := Lib.hid hno
    clear hno hc
    by_cases hlt : k < n
    · obtain ⟨b, o, rfl⟩ := H.out.addr (by omega)
      obtain ⟨y, hy⟩ : ∃ y, ys[k]? = some y := ⟨ys[k]'(by rw [← HN.out]; exact hlt), List.getElem?_eq_getElem _⟩
      obtain ⟨cs, t, f, hb, hce, hpa⟩ := (H.out.chg HC.out (by simp)).elem (by omega) hlt (cat_part Slt.len hy)
      obtain ⟨r1, r2⟩ := hpa 0 11 (by omega)
      have e11 : ((Slt.enc y).drop 0 |>.take 11).toArray = slc y := by rw [List.drop_zero, List.take_of_length_le (by rw [Slt.len]; exact Nat.le_refl _)]; rfl
      rw [e11, Nat.add_zero] at r2
      rw [Nat.add_zero] at r1
      have g1 : (k : Int) < (n : Int) := by omega
      have g0 : (0 : Int) ≤ (k : Int) := by omega
      have g2 : (n : Int) ≤ 100000 := by omega
      have HY := Lib.hid hy
      clear hy hce hpa e11
      by_cases hs : y.st = 0
      · have t1 : (y.st == 0) = true := by simp [hs]
        have HP := Lib.hid (hit_at HY.out (show pFree y = true by simp [pFree, hs]) HNO.out)
        go_wp2
        go_ret
        exact ⟨by rw [HP.out]; rfl, HC.out.alloc _⟩
      · have t1 : (y.st == 0) = false := by simp [hs]
        have HP := Lib.hid (take_all HY.out (show pFree y = false by simp [pFree, hs]) HNO.out)
        go_wp2
        go_roundw
        case rel => exact ⟨k + 1, by omega, by go_num, HC.out.alloc _, HP.out⟩
        case measure => simp [intOf]; omega
    · obtain rfl : k = n := by omega
      go_wp2
      go_ret
      exact ⟨by rw [hit_none (by have := HNO.out; rw [HN.out, List.take_length] at this; exact this)]; rfl, HC.out⟩
/-- The element at hand, as it lies in memory. -/
theorem slt_elem {w wr : World} {l : List Nat} {n b o k : Nat} {ys : List Slt} {y : Slt} (h : Sl w 11 (some ⟨b, o, none⟩) n (cat Slt.enc ys)) (hc : Chg l w wr) (hb : b ∉ l) (hk : k < n) (hy : ys[k]? = some y) :
    ∃ c t f, wr.heap[b]? = some (.cells c t f) ∧ rowIn (some (.cells c t f)) (o + k * 11) 11 = true ∧ rowPart (some (.cells c t f)) (o + k * 11) 11 = slc y := by
  obtain ⟨cs, t, f, hb, hce, hpa⟩ := (h.chg hc (by simpa using hb)).elem (by omega) hk (cat_part Slt.len hy)
  obtain ⟨r1, r2⟩ := hpa 0 11 (by omega)
  have e11 : ((Slt.enc y).drop 0 |>.take 11).toArray = slc y := by rw [List.drop_zero, List.take_of_length_le (by rw [Slt.len]; exact Nat.le_refl _)]; rfl
  rw [e11, Nat.add_zero] at r2
  rw [Nat.add_zero] at r1
  exact ⟨cs, t, f, hb, r1, r2⟩
theorem eldest_ok (A : Option Addr) (n c : Nat) (ys : List Slt) (w : World) (h : Sl w 11 A n (cat Slt.enc ys)) (hn : n = ys.length) (hn8 : n ≤ 100000) :
    Calls Tryz.prog 225 #[.slice A n c] w fun e w' => e = .returned (.int .i64 (eld ys)) ∧ Chg [] w w' := by
  have H := Lib.hid h
  have HN := Lib.hid hn
  clear h hn
  go_enter Tryz.func225, Tryz.ntmps225
  go_wp2
  go_loopw [9, 3, 4] (fun i s3 s4 wr => ∃ (k : Nat) (p q : Int), k ≤ n ∧ i = .int .i64 k ∧ s3 = .int .i64 p ∧ s4 = .int .i64 q ∧ Chg [] w wr ∧ eldS (ys.take k) = (p, q)) (fun i _ _ _ => n - (intOf i).toNat)
  case atStart => exact ⟨0, -1, 0, by omega, rfl, rfl, rfl, Chg.refl _ _, rfl⟩
  case round =>
    obtain ⟨k, p, q, hk, rfl, rfl, rfl, hc, hno⟩ := hrel
    have HC := Lib.hid hc
    have HNO := Lib.hid hno
    clear hno hc
    by_cases hlt : k < n
    · obtain ⟨b, o, rfl⟩ := H.out.addr (by omega)
      obtain ⟨y, hy⟩ : ∃ y, ys[k]? = some y := ⟨ys[k]'(by rw [← HN.out]; exact hlt), List.getElem?_eq_getElem _⟩
      obtain ⟨cs, t, f, hb, r1, r2⟩ := slt_elem H.out HC.out (by simp) hlt hy
      have g1 : (k : Int) < (n : Int) := by omega
      have g0 : (0 : Int) ≤ (k : Int) := by omega
      have g2 : (n : Int) ≤ 100000 := by omega
      have HY := Lib.hid (show eldS (ys.take (k + 1)) = eldStep (p, q) y by rw [eldS_take hy, HNO.out])
      clear hy
      by_cases hr : (atRest y.st && (decide (p < 0) || decide (y.us < q))) = true
      · have HP := Lib.hid (show eldS (ys.take (k + 1)) = (y.li, y.us) by rw [HY.out]; unfold eldStep; rw [if_pos hr])
        rw [Bool.and_eq_true] at hr
        obtain ⟨hr1, hr2⟩ := hr
        by_cases hp : p < 0
        · have t1 : decide (p < 0) = true := by simpa using hp
          clear hr2
          go_wp2_with (go_at_call 232; refine (atRest_ok _ _).mono ?_; rintro e w' ⟨rfl, rfl⟩)
          go_quiet (fail)
          go_wp2
          go_roundw
          case rel => exact ⟨k + 1, _, _, by omega, by go_num, rfl, rfl, (HC.out.alloc _).drewN _, HP.out⟩
          case measure => simp [intOf]; omega
        · have t1 : decide (p < 0) = false := by simpa using hp
          have t2 : decide (y.us < q) = true := by rw [t1] at hr2; simpa using hr2
          clear hr2
          go_wp2_with (go_at_call 232; refine (atRest_ok _ _).mono ?_; rintro e w' ⟨rfl, rfl⟩)
          go_quiet (fail)
          go_wp2
          go_roundw
          case rel => exact ⟨k + 1, _, _, by omega, by go_num, rfl, rfl, (HC.out.alloc _).drewN _, HP.out⟩
          case measure => simp [intOf]; omega
      · have HP := Lib.hid (show eldS (ys.take (k + 1)) = (p, q) by rw [HY.out]; unfold eldStep; rw [if_neg hr])
        by_cases hr1 : atRest y.st = true
        · rw [hr1, Bool.true_and] at hr
          have t1 : decide (p < 0) = false := by simp at hr; simp; omega
          have t2 : decide (y.us < q) = false := by simp at hr; simp; omega
          clear hr
          go_wp2_with (go_at_call 232; refine (atRest_ok _ _).mono ?_; rintro e w' ⟨rfl, rfl⟩)
          go_roundw
          case rel => exact ⟨k + 1, _, _, by omega, by go_num, rfl, rfl, HC.out.alloc _, HP.out⟩
          case measure => simp [intOf]; omega
        · have hr1 : atRest y.st = false := by simpa using hr1
          clear hr
          go_wp2_with (go_at_call 232; refine (atRest_ok _ _).mono ?_; rintro e w' ⟨rfl, rfl⟩)
          go_roundw
          case rel => exact ⟨k + 1, _, _, by omega, by go_num, rfl, rfl, HC.out.alloc _, HP.out⟩
          case measure => simp [intOf]; omega
    · obtain rfl : k = n := by omega
      go_wp2
      go_ret
      exact ⟨by have := HNO.out; rw [HN.out, List.take_length] at this; unfold eld; rw [this]; rfl, HC.out⟩

/-! ### The array -/
/-- The array at a has so many sets and ways, these slots, in block b, and gave the number u last. -/
def Arr (w : World) (a b S W : Nat) (xs : List Slt) (u : Int) : Prop :=
  w.heap[a]? = some (.cells #[.int .i64 S, .int .i64 W, .slice (some ⟨b, 0, none⟩) xs.length xs.length, .int .i64 u] 253 (0, 0)) ∧ w.heap[b]? = some (.cells (sq Slt.enc xs []) 54 (0, 0)) ∧ a ≠ b ∧ Good S W xs
theorem Arr.keep {w w' : World} {a b S W : Nat} {xs : List Slt} {u : Int} {l : List Nat} (h : Arr w a b S W xs u) (hc : Chg l w w') (ha : a ∉ l) (hb : b ∉ l) : Arr w' a b S W xs u :=
  ⟨hc.keep h.1 ha, hc.keep h.2.1 hb, h.2.2⟩
theorem Arr.olda {w : World} {a b S W : Nat} {xs : List Slt} {u : Int} (h : Arr w a b S W xs u) : a < w.heap.size := lt_heap h.1
theorem Arr.oldb {w : World} {a b S W : Nat} {xs : List Slt} {u : Int} (h : Arr w a b S W xs u) : b < w.heap.size := lt_heap h.2.1
theorem Arr.sl {w : World} {a b S W : Nat} {xs : List Slt} {u : Int} (h : Arr w a b S W xs u) (li : Int) : Sl w 11 (some ⟨b, setOf S li * W * 11, none⟩) W (cat Slt.enc (seg W xs (setOf S li))) := by
  have hg := h.2.2.2
  have hf := hg.fit li
  refine ⟨by rw [cat_length Slt.len, hg.seg_len], .inr ⟨b, _, _, _, _, rfl, h.2.1, ?_⟩⟩
  rw [sq_toList, List.append_nil, cat_drop Slt.len, cat_take Slt.len]; rfl
theorem aset_neg (a : Addr) (li : Int) (w : World) (h : li < 0) : Calls Tryz.prog 194 #[.pointer (some a), .int .i64 li] w fun e w' => e = .returned (.slice none 0 0) ∧ w = w' := by
  have t1 : decide (li < 0) = true := by simpa using h
  go_enter Tryz.func194, Tryz.ntmps194
  go_wp2
  go_ret
  exact ⟨rfl, rfl⟩
theorem aset_ok (a b S W : Nat) (xs : List Slt) (u li : Int) (w : World) (h : Arr w a b S W xs u) (h0 : 0 ≤ li) :
    Calls Tryz.prog 194 #[.pointer (some ⟨a, 0, none⟩), .int .i64 li] w fun e w' => e = .returned (.slice (some ⟨b, setOf S li * W * 11, none⟩) W W) ∧ Chg [] w w' := by
  obtain ⟨ha, hb, hab, hg⟩ := h
  have t1 : decide (li < 0) = false := by simp; omega
  have oa := old ha
  have hf := hg.fit li
  have hl := hg.len
  have h64 := hg.len64
  have hw8 := hg.way8
  have hw1 := hg.way1
  obtain ⟨f, hfe⟩ : ∃ f, setOf S li * W = f := ⟨_, rfl⟩
  have hfe' : (setOf S li : Int) * (W : Int) = (f : Int) := by rw [← hfe, Int.natCast_mul]
  have HS := Lib.hid hg.sets
  rw [hfe] at hf ⊢
  rw [← hl] at hf
  obtain ⟨N, hN⟩ : ∃ N, xs.length = N := ⟨_, rfl⟩
  rw [hN] at hf h64 ha
  have g1 : (f : Int) + (W : Int) ≤ (N : Int) := by omega
  have g2 : (N : Int) ≤ 64 := by omega
  have g3 : (1 : Int) ≤ (W : Int) := by omega
  have g4 : (0 : Int) ≤ (f : Int) := by omega
  clear hfe hl hN hg
  go_enter Tryz.func194, Tryz.ntmps194
  go_wp2
  go_quiet (first | (go_at_call 224; exact quiet_same (geomSet_ok S li _ HS.out h0)))
  go_wp2
  go_ret
  exact ⟨by rw [Nat.add_sub_cancel_left]; rfl, (Chg.refl _ _).drewN _⟩
end Go.Proofs.YtadeoflkppiflaaGreatDoor
end
