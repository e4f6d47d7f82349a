/- Arguments opened to cells, whatever arrays, structs and slices they are made of. No condition. -/
import Derived.Test.YtnocekhgabgffaaMem
import Derived.Test.YtnocekhgabgffaaOpen
import Derived.ChangeArms
import Derived.WideShapes
namespace Go.Proofs.Ytnocekhgabgffaa
open Go.ChangeShapes Go.WideShapes Go.ChangeAt Go.RowKit
set_option linter.unusedVariables false

/-- What a cell holds. -/
inductive Kd where
  | int (k : IntKind)
  | bool
  | str
  | slice (e : List Kd)

/-- The fields one behind the other. -/
def kindsFields (P : Program) (K : TypeId → Option (List Kd)) : List Field → Nat → Option (List Kd)
  | [], _ => some []
  | f :: fs, off => match K f.type with
    | some ks => if f.offset = off ∧ P.cellsOf f.type = ks.length then (kindsFields P K fs (off + ks.length)).map (ks ++ ·) else none
    | none => none
/-- The kinds of a type's cells. -/
def kinds (P : Program) : Nat → TypeId → Option (List Kd)
  | 0, _ => none
  | d + 1, t => match P.underlying t with
    | some (.int k) => some [.int k]
    | some .bool => some [.bool]
    | some .string => some [.str]
    | some (.slice e) => match kinds P d e with
      | some ks => if P.cellsOf e = ks.length ∧ 0 < ks.length then some [.slice ks] else none
      | none => none
    | some (.array n e) => match kinds P d e with
      | some ks => if P.cellsOf e = ks.length ∧ P.cellsOf t = n * ks.length then some (List.replicate n ks).flatten else none
      | none => none
    | some (.struct fs) => match kindsFields P (kinds P d) fs.toList 0 with
      | some ks => if P.cellsOf t = ks.length then some ks else none
      | none => none
    | _ => none

/-- A cell of that kind; what a slice of them has, too. -/
def IsKd (w : World) : Kd → Value → Prop
  | .int k, v => ∃ n, v = .int k n ∧ (Lit.int k n).wf = true
  | .bool, v => ∃ b, v = .bool b
  | .str, v => ∃ s, v = .string s ∧ s.size ≤ maxLen
  | .slice ks, v => ∃ A n c xs, v = .slice A n c ∧ n ≤ c ∧ c ≤ maxLen ∧ Sl w ks.length A n xs ∧ (A = none → c = 0) ∧
      ∀ i, i < n → ∀ (j : Nat) (h : j < ks.length), ∃ u, xs[i * ks.length + j]? = some u ∧ IsKd w ks[j] u
  termination_by k _ => SizeOf.sizeOf k
  decreasing_by
    have := List.sizeOf_lt_of_mem (List.getElem_mem h)
    simp only [Kd.slice.sizeOf_spec]
    omega
/-- Cells of these kinds. -/
def AreKd (w : World) (ks : List Kd) (cs : List Value) : Prop := cs.length = ks.length ∧ ∀ (j : Nat) (kd : Kd), ks[j]? = some kd → ∃ v, cs[j]? = some v ∧ IsKd w kd v

theorem AreKd.append {w : World} {ks ks' : List Kd} {cs cs' : List Value} (h : AreKd w ks cs) (h' : AreKd w ks' cs') : AreKd w (ks ++ ks') (cs ++ cs') := by
  refine ⟨by simp [h.1, h'.1], fun j kd hj => ?_⟩
  by_cases hlt : j < ks.length
  · rw [List.getElem?_append_left hlt] at hj
    rw [List.getElem?_append_left (by rw [h.1]; exact hlt)]
    exact h.2 j kd hj
  · rw [List.getElem?_append_right (by omega)] at hj
    rw [List.getElem?_append_right (by rw [h.1]; omega), h.1]
    exact h'.2 _ kd hj

section
variable {H : Type} {enc : TypeId × Value → H} {P : Program} {w : World} {base : Nat} {spare : Nat → Bool} {held : Bool}

theorem trod_bool' {t : TypeId} {m : Nat} {cs : List Value} {x : DataW H × List MemPlace} (hu : P.underlying t = some .bool) (h : DataW.trod enc P w base spare held m t cs = some x) : ∃ b, cs = [.bool b] := by
  cases m with
  | zero => simp [DataW.trod] at h
  | succ m =>
    unfold DataW.trod at h
    rw [hu] at h
    split at h <;> simp_all
theorem trod_str' {t : TypeId} {m : Nat} {cs : List Value} {x : DataW H × List MemPlace} (hu : P.underlying t = some .string) (h : DataW.trod enc P w base spare held m t cs = some x) : ∃ s, cs = [.string s] ∧ s.size ≤ maxLen := by
  cases m with
  | zero => simp [DataW.trod] at h
  | succ m =>
    unfold DataW.trod at h
    rw [hu] at h
    split at h <;> simp_all
theorem cells_at {a : Addr} {n : Nat} {cs : List Value} (h : w.cells? base a n = some cs) : cs.length = n ∧ ∀ i, i < n → w.cell? (a.add i) = cs[i]? :=
  let ⟨_, h1, h2⟩ := World.cells?_some h; ⟨h1, h2⟩

theorem kinds_fields {m : Nat} {K : TypeId → Option (List Kd)}
    (ih : ∀ (t : TypeId) (ks : List Kd), K t = some ks → ∀ (cs : List Value) (x : DataW H × List MemPlace), DataW.trod enc P w base spare held m t cs = some x → AreKd w ks cs) :
    ∀ (fs : List Field) (off : Nat) (ks : List Kd) (cs : List Value), kindsFields P K fs off = some ks → cs.length = off + ks.length →
      (∀ f ∈ fs, ∃ x, DataW.trod enc P w base spare held m f.type ((cs.drop f.offset).take (P.cellsOf f.type)) = some x) → AreKd w ks (cs.drop off)
  | [], off, ks, cs, hk, hl, _ => by
    simp [kindsFields] at hk; subst hk
    exact ⟨by simp at hl ⊢; omega, by simp⟩
  | f :: fs, off, ks, cs, hk, hl, hf => by
    simp only [kindsFields] at hk
    split at hk
    · rename_i k0 hK
      split at hk
      · rename_i hc
        obtain ⟨h1, h2⟩ := hc
        obtain ⟨k1, hk1, rfl⟩ := Option.map_eq_some_iff.1 hk
        obtain ⟨x, hx⟩ := hf f (by simp)
        rw [h1, h2] at hx
        have a1 := ih _ _ hK _ _ hx
        have a2 := kinds_fields ih fs (off + k0.length) k1 cs hk1 (by simp at hl; omega) (fun g hg => hf g (by simp [hg]))
        have e : cs.drop off = (cs.drop off).take k0.length ++ cs.drop (off + k0.length) := by
          rw [← List.drop_drop, List.take_append_drop]
        rw [e]
        exact a1.append a2
      · cases hk
    · cases hk

theorem are_rows {m : Nat} {e : TypeId} {k0 : List Kd} (hce : P.cellsOf e = k0.length)
    (ih : ∀ (cs : List Value) (x : DataW H × List MemPlace), DataW.trod enc P w base spare held m e cs = some x → AreKd w k0 cs) :
    ∀ (n : Nat) (cs : List Value), cs.length = n * k0.length → (∀ i, i < n → ∃ x, DataW.trod enc P w base spare held m e ((cs.drop (i * k0.length)).take k0.length) = some x) → AreKd w (List.replicate n k0).flatten cs
  | 0, cs, hl, _ => by
    have : cs = [] := List.eq_nil_of_length_eq_zero (by simpa using hl)
    subst this; exact ⟨by simp, by simp⟩
  | n + 1, cs, hl, hf => by
    rw [List.replicate_succ, List.flatten_cons]
    have e : cs = cs.take k0.length ++ cs.drop k0.length := (List.take_append_drop _ _).symm
    rw [e]
    obtain ⟨x, hx⟩ := hf 0 (by omega)
    simp only [Nat.zero_mul, List.drop_zero] at hx
    refine (ih _ _ hx).append (are_rows hce ih n _ (by rw [List.length_drop, hl, Nat.add_mul]; omega) fun i hi => ?_)
    obtain ⟨y, hy⟩ := hf (i + 1) (by omega)
    rw [List.drop_drop]
    rw [show k0.length + i * k0.length = (i + 1) * k0.length by rw [Nat.add_mul]; omega]
    exact ⟨y, hy⟩

theorem trod_kinds : ∀ (d : Nat) (t : TypeId) (ks : List Kd), kinds P d t = some ks → ∀ (m : Nat) (cs : List Value) (x : DataW H × List MemPlace), DataW.trod enc P w base spare held m t cs = some x → AreKd w ks cs
  | 0, t, ks, hk, _, _, _, _ => by simp [kinds] at hk
  | d + 1, t, ks, hk, m, cs, x, hx => by
    simp only [kinds] at hk
    split at hk
    · rename_i k hu
      injection hk with hk; subst hk
      obtain ⟨n, rfl, _, hw⟩ := DataW.trod_int hu hx
      refine ⟨rfl, fun j kd hj => ?_⟩
      match j, hj with
      | 0, hj => simp at hj; subst hj; exact ⟨_, rfl, by rw [IsKd]; exact ⟨n, rfl, hw⟩⟩
    · rename_i hu
      injection hk with hk; subst hk
      obtain ⟨b, rfl⟩ := trod_bool' hu hx
      refine ⟨rfl, fun j kd hj => ?_⟩
      match j, hj with
      | 0, hj => simp at hj; subst hj; exact ⟨_, rfl, by rw [IsKd]; exact ⟨b, rfl⟩⟩
    · rename_i hu
      injection hk with hk; subst hk
      obtain ⟨s, rfl, hs⟩ := trod_str' hu hx
      refine ⟨rfl, fun j kd hj => ?_⟩
      match j, hj with
      | 0, hj => simp at hj; subst hj; exact ⟨_, rfl, by rw [IsKd]; exact ⟨s, rfl, hs⟩⟩
    · rename_i e hu
      split at hk
      · rename_i k0 hk0
        split at hk
        · rename_i hc
          obtain ⟨hce, hpos⟩ := hc
          injection hk with hk; subst hk
          have hS : ∃ v, cs = [v] ∧ IsKd w (.slice k0) v := by
            simp only [IsKd]
            rcases DataW.trod_slice hu hx with ⟨rfl, _⟩ | ⟨a, len, cap, elems, rest, n, _, rfl, _, hb, hl, hm, hlen, hel, _, _⟩
            · exact ⟨_, rfl, none, 0, 0, [], rfl, Nat.le_refl _, by simp [maxLen], ⟨by simp, .inl rfl⟩, fun _ => rfl, fun i hi => by omega⟩
            · refine ⟨_, rfl, ?_⟩
              rw [hce] at hel
              have each : ∀ i, i < len → ∃ cs', cs'.length = k0.length ∧ (∀ j, j < k0.length → w.cell? ((a.add (i * k0.length)).add j) = cs'[j]?) ∧ AreKd w k0 cs' := fun i hi => by
                have h1 := hel i hi
                have h2 : i < elems.length := by omega
                rw [List.getElem?_eq_getElem h2, Option.bind_eq_some_iff] at h1
                obtain ⟨cs', h3, h4⟩ := h1
                obtain ⟨h5, h6⟩ := cells_at h3
                exact ⟨cs', h5, h6, trod_kinds d e k0 hk0 n cs' _ h4⟩
              rcases Nat.eq_zero_or_pos len with h0 | h0
              · subst h0
                exact ⟨some a, 0, cap, [], rfl, hl, hm, ⟨by simp, .inl rfl⟩, by simp, fun i hi => by omega⟩
              · -- the block
                obtain ⟨c0, hc0, hcell0, _⟩ := each 0 h0
                have hz := hcell0 0 hpos
                have hlt0 : 0 < c0.length := by omega
                rw [List.getElem?_eq_getElem hlt0] at hz
                have hspot : a.spot = none ∧ ∃ c t f, w.heap[a.block]? = some (.cells c t f) := by
                  have : ((a.add (0 * k0.length)).add 0).block = a.block := by simp [Addr.add]
                  unfold World.cell? at hz
                  split at hz
                  · rename_i c t f hh
                    split at hz
                    · cases hz
                    · rename_i hs
                      refine ⟨?_, c, t, f, ?_⟩
                      · revert hs; simp [Addr.add]
                      · rw [← hh]; simp [Addr.add]
                  · cases hz
                obtain ⟨hsp, c, t', f, hh⟩ := hspot
                obtain ⟨b, o, sp⟩ := a
                simp only at hsp hh
                subst hsp
                have cellat : ∀ i, i < len → ∀ j, j < k0.length → ∃ v, c[o + (i * k0.length + j)]? = some v := fun i hi j hj => by
                  obtain ⟨c1, hc1, hcell1, _⟩ := each i hi
                  have := hcell1 j hj
                  rw [Addr.add_mid, Addr.add_mid, cell_row, hh, rowCell_some, List.getElem?_eq_getElem (by omega)] at this
                  rw [Nat.add_assoc] at this
                  exact ⟨_, this⟩
                have hfit : o + len * k0.length ≤ c.size := by
                  obtain ⟨v, hv⟩ := cellat (len - 1) (by omega) (k0.length - 1) (by omega)
                  have := (Array.getElem?_eq_some_iff.1 hv).1
                  have e1 : (len - 1) * k0.length + k0.length = len * k0.length := by
                    rw [← Nat.succ_mul]; congr 1; omega
                  omega
                refine ⟨some ⟨b, o, none⟩, len, cap, (c.toList.drop o).take (len * k0.length), rfl, hl, hm, ⟨by simp; omega, .inr ⟨b, o, c, t', f, rfl, hh, rfl⟩⟩, by simp, fun i hi j hjlt => ?_⟩
                obtain ⟨c1, hc1, hcell1, hk1⟩ := each i hi
                obtain ⟨v, hv, hkd⟩ := hk1.2 j k0[j] (List.getElem?_eq_getElem hjlt)
                refine ⟨v, ?_, hkd⟩
                have hlt : i * k0.length + j < len * k0.length := by
                  have : (i + 1) * k0.length ≤ len * k0.length := Nat.mul_le_mul_right _ (by omega)
                  rw [Nat.add_mul] at this
                  omega
                rw [List.getElem?_take_of_lt hlt, List.getElem?_drop]
                have h7 := hcell1 j hjlt
                rw [Addr.add_mid, Addr.add_mid, cell_row, hh, rowCell_some, hv] at h7
                rw [← h7, Array.getElem?_toList, Nat.add_assoc]
          obtain ⟨v, rfl, hv⟩ := hS
          refine ⟨rfl, fun j kd hj => ?_⟩
          match j, hj with
          | 0, hj => simp at hj; subst hj; exact ⟨_, rfl, hv⟩
        · cases hk
      · cases hk
    · rename_i n e hu
      split at hk
      · rename_i k0 hk0
        split at hk
        · rename_i hc
          injection hk with hk; subst hk
          obtain ⟨xs, q, _, _, hl, hxl, hel⟩ := DataW.trod_array hu hx
          refine (are_rows hc.1 (fun cs x h => trod_kinds d e k0 hk0 q cs x h) n cs (by rw [hl, hc.2]) fun i hi => ?_)
          have := hel i hi
          rw [hc.1, List.getElem?_eq_getElem (by omega)] at this
          exact ⟨_, this⟩
        · cases hk
      · cases hk
    · rename_i fs hu
      split at hk
      · rename_i k0 hk0
        split at hk
        · rename_i hc
          injection hk with hk; subst hk
          obtain ⟨xs, q, _, _, hl, hxl, hel⟩ := DataW.trod_struct hu hx
          have := kinds_fields (m := q) (K := kinds P d) (fun t ks h cs x hx => trod_kinds d t ks h q cs x hx) fs.toList 0 k0 cs hk0 (by rw [hl, hc]; omega) (fun f hf => by
            obtain ⟨i, hi, he⟩ := List.getElem_of_mem hf
            have hfi : fs[i]? = some f := by rw [← he]; simp at hi ⊢
            have := hel i f hfi
            have hlt : i < xs.length := by rw [hxl]; exact (Array.getElem?_eq_some_iff.1 hfi).1
            rw [List.getElem?_eq_getElem hlt] at this
            exact ⟨_, this⟩)
          rw [List.drop_zero] at this
          exact this
        · cases hk
      · cases hk
    · cases hk
/-- An argument that is an array or a struct. -/
theorem open_row {r : Reach} {b0 : Nat} {t : TypeId} {v : Value} {d : DataW H} {ps : List MemPlace} {n : Nat} {ks : List Kd} (hu : (match P.underlying t with | some (.struct _) | some (.array _ _) => true | _ => false) = true) (hk : kinds P n t = some ks)
    (hok : Value.okWide P w r b0 t v) (h : DataW.Trod enc P w base spare held t v d ps) : ∃ cs : List Value, v = .agg cs.toArray ∧ AreKd w ks cs := by
  obtain ⟨m, hf⟩ := h
  have := trod_kinds n t ks hk m _ _ hf
  have hv : ∃ cs, v = .agg cs := by
    simp only [Value.okWide] at hok
    split at hok
    · obtain ⟨cs, rfl, _⟩ := hok; exact ⟨cs, rfl⟩
    · obtain ⟨cs, rfl, _⟩ := hok; exact ⟨cs, rfl⟩
    · rename_i h1 h2
      split at hu
      · rename_i fs he; exact absurd he (h1 fs)
      · rename_i k e he; exact absurd he (h2 k e)
      · cases hu
  obtain ⟨cs, rfl⟩ := hv
  exact ⟨cs.toList, by simp, this⟩
/-- An argument that is a slice. -/
theorem open_sl {r : Reach} {b0 : Nat} {t e : TypeId} {v : Value} {d : DataW H} {ps : List MemPlace} {n : Nat} {kd : Kd} (hu : P.underlying t = some (.slice e)) (hk : kinds P n t = some [kd])
    (hok : Value.okWide P w r b0 t v) (h : DataW.Trod enc P w base spare held t v d ps) : IsKd w kd v := by
  obtain ⟨m, hf⟩ := h
  have := trod_kinds n t _ hk m _ _ hf
  obtain ⟨a, l, c, rfl⟩ := okWide_slice hu hok
  obtain ⟨u, h1, h2⟩ := this.2 0 kd rfl
  simp [Value.cells] at h1
  rw [h1]; exact h2
end

/-- Cells of one kind of integers. -/
theorem AreKd.ints {w : World} {m : Nat} {k : IntKind} {cs : List Value} (h : AreKd w (List.replicate m (.int k)) cs) : ∃ ns : List Int, ns.length = m ∧ cs = ns.map (Value.int k) ∧ ∀ x ∈ ns, (Lit.int k x).wf = true := by
  have hl : cs.length = m := by simpa using h.1
  obtain ⟨ns, e, hw⟩ := ints_of_cells (k := k) cs (fun i hi => by
    obtain ⟨v, h1, h2⟩ := h.2 i (.int k) (by rw [List.getElem?_replicate, if_pos (by omega)])
    rw [IsKd] at h2
    obtain ⟨n, rfl, hw⟩ := h2
    exact ⟨n, h1, hw⟩)
  exact ⟨ns, by rw [← hl, e]; simp, e, hw⟩
theorem AreKd.cut {w : World} {ks ks' : List Kd} {cs : List Value} (h : AreKd w (ks ++ ks') cs) : ∃ c1 c2, cs = c1 ++ c2 ∧ AreKd w ks c1 ∧ AreKd w ks' c2 := by
  have hl : cs.length = ks.length + ks'.length := by simpa using h.1
  refine ⟨cs.take ks.length, cs.drop ks.length, by simp, ⟨by simp; omega, fun j kd hj => ?_⟩, ⟨by simp; omega, fun j kd hj => ?_⟩⟩
  · have hlt : j < ks.length := (List.getElem?_eq_some_iff.1 hj).1
    rw [List.getElem?_take_of_lt hlt]
    exact h.2 j kd (by rw [List.getElem?_append_left hlt]; exact hj)
  · rw [List.getElem?_drop]
    exact h.2 _ kd (by rw [List.getElem?_append_right (by omega)]; simpa using hj)
theorem AreKd.head {w : World} {k : Kd} {ks : List Kd} {cs : List Value} (h : AreKd w (k :: ks) cs) : ∃ v c, cs = v :: c ∧ IsKd w k v ∧ AreKd w ks c := by
  obtain ⟨c1, c2, rfl, h1, h2⟩ := AreKd.cut (ks := [k]) (ks' := ks) h
  obtain ⟨v, hv, hk⟩ := h1.2 0 k rfl
  match c1, h1.1 with
  | [u], _ => simp at hv; subst hv; exact ⟨u, c2, rfl, hk, h2⟩
theorem AreKd.done {w : World} {cs : List Value} (h : AreKd w [] cs) : cs = [] := List.eq_nil_of_length_eq_zero (by simpa using h.1)
/-- A slice's elements. -/
theorem IsKd.rows {w : World} {ks : List Kd} {v : Value} (h : IsKd w (.slice ks) v) : ∃ A n c, ∃ xs : List Value, v = .slice A n c ∧ n ≤ c ∧ c ≤ maxLen ∧ Sl w ks.length A n xs ∧ (A = none → c = 0) ∧ ∀ i, i < n → AreKd w ks ((xs.drop (i * ks.length)).take ks.length) := by
  rw [IsKd] at h
  obtain ⟨A, n, c, xs, rfl, hn, hc, hs, h0, hx⟩ := h
  refine ⟨A, n, c, xs, rfl, hn, hc, hs, h0, fun i hi => ?_⟩
  have hle : (i + 1) * ks.length ≤ n * ks.length := Nat.mul_le_mul_right _ (by omega)
  rw [Nat.add_mul] at hle
  refine ⟨by rw [List.length_take, List.length_drop, hs.1]; omega, fun j kd hj => ?_⟩
  have hlt : j < ks.length := (List.getElem?_eq_some_iff.1 hj).1
  obtain ⟨u, h1, h2⟩ := hx i hi j hlt
  have e : ks[j] = kd := by rw [List.getElem?_eq_getElem hlt] at hj; exact Option.some.inj hj
  rw [e] at h2
  exact ⟨u, by rw [List.getElem?_take_of_lt hlt, List.getElem?_drop]; exact h1, h2⟩
/-- The kinds of a line's cells, of a slice of lines. -/
def kLine : List Kd := List.replicate 8 (.int .u64)
theorem IsKd.lines {w : World} {v : Value} (h : IsKd w (.slice kLine) v) : ∃ A n c, ∃ xs : List Int, v = .slice A n c ∧ n ≤ c ∧ c ≤ maxLen ∧ Sl w 8 A n (xs.map (Value.int .u64)) ∧ (A = none → c = 0) := by
  rw [IsKd] at h
  obtain ⟨A, n, c, xs, rfl, hn, hc, hs, h0, hx⟩ := h
  have hl : xs.length = n * 8 := hs.1
  obtain ⟨ns, e, _⟩ := ints_of_cells (k := .u64) xs (fun i hi => by
    obtain ⟨u, h1, h2⟩ := hx (i / 8) (by omega) (i % 8) (by show i % 8 < 8; omega)
    have e1 : kLine[i % 8]'(by show i % 8 < 8; omega) = .int .u64 := List.getElem_replicate _
    rw [e1, IsKd] at h2
    obtain ⟨m, rfl, hw⟩ := h2
    have e2 : i / 8 * kLine.length + i % 8 = i := by show i / 8 * 8 + i % 8 = i; omega
    rw [e2] at h1
    exact ⟨m, h1, hw⟩)
  exact ⟨A, n, c, ns, rfl, hn, hc, by rw [← e]; exact hs, h0⟩
/-- A slice of integers of one kind. -/
theorem IsKd.ints {w : World} {k : IntKind} {v : Value} (h : IsKd w (.slice [.int k]) v) : ∃ A n c, ∃ xs : List Int, v = .slice A n c ∧ n ≤ c ∧ c ≤ maxLen ∧ Sl w 1 A n (xs.map (Value.int k)) ∧ ∀ x ∈ xs, (Lit.int k x).wf = true := by
  obtain ⟨A, n, c, xs, rfl, hn, hc, hs, h0, hx⟩ := h.rows
  have hl : xs.length = n := by simpa using hs.1
  obtain ⟨ns, e, hw⟩ := ints_of_cells (k := k) xs (fun i hi => by
    have h1 := hx i (by omega)
    have e1 : (xs.drop (i * [Kd.int k].length)).take [Kd.int k].length = [xs[i]] := by
      simp only [List.length_cons, List.length_nil, Nat.zero_add, Nat.mul_one]
      rw [List.drop_eq_getElem_cons hi]; rfl
    rw [e1] at h1
    obtain ⟨v, c, h2, h3, _⟩ := h1.head
    injection h2 with h2 _
    rw [IsKd] at h3
    obtain ⟨m, rfl, hw⟩ := h3
    exact ⟨m, by rw [List.getElem?_eq_getElem hi, h2], hw⟩)
  exact ⟨A, n, c, ns, rfl, hn, hc, by rw [← e]; exact hs, hw⟩
end Go.Proofs.Ytnocekhgabgffaa
