/- What a statement of layer 13 needs further, and for the last file the statement itself: for every argument. No condition. -/
import Derived.Test.YtcjoinhngdfdmaaGreatDoorCLar
import Derived.Test.YtcjoinhngdfdmaaGreatDoorCLaa
import Derived.Test.YtcjoinhngdfdmaaGreatDoorCLab
import Derived.Test.YtcjoinhngdfdmaaGreatDoorCLac
import Derived.Test.YtcjoinhngdfdmaaGreatDoorCLad
import Derived.Test.YtcjoinhngdfdmaaGreatDoorCLae
import Derived.Test.YtcjoinhngdfdmaaGreatDoorCLaf
import Derived.Test.YtcjoinhngdfdmaaGreatDoorCLag
import Derived.Test.YtcjoinhngdfdmaaGreatDoorCLah
import Derived.Test.YtcjoinhngdfdmaaGreatDoorCLai
import Derived.Test.YtcjoinhngdfdmaaGreatDoorCLaj
import Derived.Test.YtcjoinhngdfdmaaGreatDoorCLak
import Derived.Test.YtcjoinhngdfdmaaGreatDoorCLal
import Derived.Test.YtcjoinhngdfdmaaGreatDoorCLam
import Derived.Test.YtcjoinhngdfdmaaGreatDoorCLan
import Derived.Test.YtcjoinhngdfdmaaGreatDoorCLao
import Derived.Test.YtcjoinhngdfdmaaGreatDoorCLap
import Derived.Test.YtcjoinhngdfdmaaGreatDoorCLaq
import Derived.Below
import Derived.BigQuiet
import Derived.ChangeArms
import Derived.ChangeKeysEq
import Derived.Deep.MidRow
import Derived.Deep.Quiet
import Derived.Lib.Hide
import Derived.Maps.OwnOps
import Derived.OpenShut
import Derived.ProofKit
import Derived.StillTail
import Derived.Test.YtcjoinhngdfdmaaGreatDoorChecked
import Derived.WalkKit
import Derived.WideShapes
section
namespace Go.Proofs.YtcjoinhngdfdmaaGreatDoor
open Go.ChangeShapes Go.WideShapes Go.ChangeAt Go.RowKit

section
variable {H : Type} {enc : TypeId × Value → H} {P : Program} {w : World} {base base' : Nat} {spare : Nat → Bool} {held : Bool}

theorem ints_of_cells {k : IntKind} : ∀ (cs : List Value), (∀ i, i < cs.length → ∃ m, cs[i]? = some (.int k m) ∧ (Lit.int k m).wf = true) → ∃ ns : List Int, cs = ns.map (Value.int k) ∧ ∀ x ∈ ns, (Lit.int k x).wf = true
  | [], _ => ⟨[], rfl, by simp⟩
  | c :: cs, h => by
    obtain ⟨m, h0, hw⟩ := h 0 (by simp)
    obtain ⟨ns, e, hn⟩ := ints_of_cells cs (fun i hi => by have := h (i + 1) (by simpa using hi); simpa using this)
    simp at h0
    subst h0; subst e
    exact ⟨m :: ns, rfl, by simpa [hw] using hn⟩

end

end Go.Proofs.YtcjoinhngdfdmaaGreatDoor
end
section
namespace Go.Proofs.YtcjoinhngdfdmaaGreatDoor
open Go.ChangeShapes Go.WideShapes Go.ChangeAt Go.RowKit
set_option linter.unusedVariables false

/-- The fields one behind the other. -/
def kindsFields (P : Program) (K : TypeId → Option (List Kd)) : List Field → Nat → Option (List Kd)
  | [], _ => some []
  | f :: fs, off => match K f.type with
    | some ks => if f.offset = off ∧ P.cellsOf f.type = ks.length then (kindsFields P K fs (off + ks.length)).map (ks ++ ·) else none
    | none => none
/-- The kinds of a type's cells. -/
def kinds (P : Program) : Nat → TypeId → Option (List Kd)
  | 0, _ => none
  | d + 1, t => match P.underlying t with
    | some (.int k) => some [.int k]
    | some .bool => some [.bool]
    | some .string => some [.str]
    | some (.slice e) => match kinds P d e with
      | some ks => if P.cellsOf e = ks.length ∧ 0 < ks.length then some [.slice ks] else none
      | none => none
    | some (.array n e) => match kinds P d e with
      | some ks => if P.cellsOf e = ks.length ∧ P.cellsOf t = n * ks.length then some (List.replicate n ks).flatten else none
      | none => none
    | some (.struct fs) => match kindsFields P (kinds P d) fs.toList 0 with
      | some ks => if P.cellsOf t = ks.length then some ks else none
      | none => none
    | _ => none

section
variable {H : Type} {enc : TypeId × Value → H} {P : Program} {w : World} {base : Nat} {spare : Nat → Bool} {held : Bool}

theorem trod_bool' {t : TypeId} {m : Nat} {cs : List Value} {x : DataW H × List MemPlace} (hu : P.underlying t = some .bool) (h : DataW.trod enc P w base spare held m t cs = some x) : ∃ b, cs = [.bool b] := by
  cases m with
  | zero => simp [DataW.trod] at h
  | succ m =>
    unfold DataW.trod at h
    rw [hu] at h
    split at h <;> simp_all
theorem trod_str' {t : TypeId} {m : Nat} {cs : List Value} {x : DataW H × List MemPlace} (hu : P.underlying t = some .string) (h : DataW.trod enc P w base spare held m t cs = some x) : ∃ s, cs = [.string s] ∧ s.size ≤ maxLen := by
  cases m with
  | zero => simp [DataW.trod] at h
  | succ m =>
    unfold DataW.trod at h
    rw [hu] at h
    split at h <;> simp_all
theorem cells_at {a : Addr} {n : Nat} {cs : List Value} (h : w.cells? base a n = some cs) : cs.length = n ∧ ∀ i, i < n → w.cell? (a.add i) = cs[i]? :=
  let ⟨_, h1, h2⟩ := World.cells?_some h; ⟨h1, h2⟩

theorem kinds_fields {m : Nat} {K : TypeId → Option (List Kd)}
    (ih : ∀ (t : TypeId) (ks : List Kd), K t = some ks → ∀ (cs : List Value) (x : DataW H × List MemPlace), DataW.trod enc P w base spare held m t cs = some x → AreKd w ks cs) :
    ∀ (fs : List Field) (off : Nat) (ks : List Kd) (cs : List Value), kindsFields P K fs off = some ks → cs.length = off + ks.length →
      (∀ f ∈ fs, ∃ x, DataW.trod enc P w base spare held m f.type ((cs.drop f.offset).take (P.cellsOf f.type)) = some x) → AreKd w ks (cs.drop off)
  | [], off, ks, cs, hk, hl, _ => by
    simp [kindsFields] at hk; subst hk
    exact ⟨by simp at hl ⊢; omega, by simp⟩
  | f :: fs, off, ks, cs, hk, hl, hf => by
    simp only [kindsFields] at hk
    split at hk
    · rename_i k0 hK
      split at hk
      · rename_i hc
        obtain ⟨h1, h2⟩ := hc
        obtain ⟨k1, hk1, rfl⟩ := Option.map_eq_some_iff.1 hk
        obtain ⟨x, hx⟩ := hf f (by simp)
        rw [h1, h2] at hx
        have a1 := ih _ _ hK _ _ hx
        have a2 := kinds_fields ih fs (off + k0.length) k1 cs hk1 (by simp at hl; omega) (fun g hg => hf g (by simp [hg]))
        have e : cs.drop off = (cs.drop off).take k0.length ++ cs.drop (off + k0.length) := by
          rw [← List.drop_drop, List.take_append_drop]
        rw [e]
        exact a1.append a2
      · cases hk
    · cases hk

theorem are_rows {m : Nat} {e : TypeId} {k0 : List Kd} (hce : P.cellsOf e = k0.length)
    (ih : ∀ (cs : List Value) (x : DataW H × List MemPlace), DataW.trod enc P w base spare held m e cs = some x → AreKd w k0 cs) :
    ∀ (n : Nat) (cs : List Value), cs.length = n * k0.length → (∀ i, i < n → ∃ x, DataW.trod enc P w base spare held m e ((cs.drop (i * k0.length)).take k0.length) = some x) → AreKd w (List.replicate n k0).flatten cs
  | 0, cs, hl, _ => by
    have : cs = [] := List.eq_nil_of_length_eq_zero (by simpa using hl)
    subst this; exact ⟨by simp, by simp⟩
  | n + 1, cs, hl, hf => by
    rw [List.replicate_succ, List.flatten_cons]
    have e : cs = cs.take k0.length ++ cs.drop k0.length := (List.take_append_drop _ _).symm
    rw [e]
    obtain ⟨x, hx⟩ := hf 0 (by omega)
    simp only [Nat.zero_mul, List.drop_zero] at hx
    refine (ih _ _ hx).append (are_rows hce ih n _ (by rw [List.length_drop, hl, Nat.add_mul]; omega) fun i hi => ?_)
    obtain ⟨y, hy⟩ := hf (i + 1) (by omega)
    rw [List.drop_drop]
    rw [show k0.length + i * k0.length = (i + 1) * k0.length by rw [Nat.add_mul]; omega]
    exact ⟨y, hy⟩

theorem trod_kinds : ∀ (d : Nat) (t : TypeId) (ks : List Kd), kinds P d t = some ks → ∀ (m : Nat) (cs : List Value) (x : DataW H × List MemPlace), DataW.trod enc P w base spare held m t cs = some x → AreKd w ks cs
  | 0, t, ks, hk, _, _, _, _ => by simp [kinds] at hk
  | d + 1, t, ks, hk, m, cs, x, hx => by
    simp only [kinds] at hk
    split at hk
    · rename_i k hu
      injection hk with hk; subst hk
      obtain ⟨n, rfl, _, hw⟩ := DataW.trod_int hu hx
      refine ⟨rfl, fun j kd hj => ?_⟩
      match j, hj with
      | 0, hj => simp at hj; subst hj; exact ⟨_, rfl, by rw [IsKd]; exact ⟨n, rfl, hw⟩⟩
    · rename_i hu
      injection hk with hk; subst hk
      obtain ⟨b, rfl⟩ := trod_bool' hu hx
      refine ⟨rfl, fun j kd hj => ?_⟩
      match j, hj with
      | 0, hj => simp at hj; subst hj; exact ⟨_, rfl, by rw [IsKd]; exact ⟨b, rfl⟩⟩
    · rename_i hu
      injection hk with hk; subst hk
      obtain ⟨s, rfl, hs⟩ := trod_str' hu hx
      refine ⟨rfl, fun j kd hj => ?_⟩
      match j, hj with
      | 0, hj => simp at hj; subst hj; exact ⟨_, rfl, by rw [IsKd]; exact ⟨s, rfl, hs⟩⟩
    · rename_i e hu
      split at hk
      · rename_i k0 hk0
        split at hk
        · rename_i hc
          obtain ⟨hce, hpos⟩ := hc
          injection hk with hk; subst hk
          have hS : ∃ v, cs = [v] ∧ IsKd w (.slice k0) v := by
            simp only [IsKd]
            rcases DataW.trod_slice hu hx with ⟨rfl, _⟩ | ⟨a, len, cap, elems, rest, n, _, rfl, _, hb, hl, hm, hlen, hel, _, _⟩
            · exact ⟨_, rfl, none, 0, 0, [], rfl, Nat.le_refl _, by simp [maxLen], ⟨by simp, .inl rfl⟩, fun _ => rfl, fun i hi => by omega⟩
            · refine ⟨_, rfl, ?_⟩
              rw [hce] at hel
              have each : ∀ i, i < len → ∃ cs', cs'.length = k0.length ∧ (∀ j, j < k0.length → w.cell? ((a.add (i * k0.length)).add j) = cs'[j]?) ∧ AreKd w k0 cs' := fun i hi => by
                have h1 := hel i hi
                have h2 : i < elems.length := by omega
                rw [List.getElem?_eq_getElem h2, Option.bind_eq_some_iff] at h1
                obtain ⟨cs', h3, h4⟩ := h1
                obtain ⟨h5, h6⟩ := cells_at h3
                exact ⟨cs', h5, h6, trod_kinds d e k0 hk0 n cs' _ h4⟩
              rcases Nat.eq_zero_or_pos len with h0 | h0
              · subst h0
                exact ⟨some a, 0, cap, [], rfl, hl, hm, ⟨by simp, .inl rfl⟩, by simp, fun i hi => by omega⟩
              · -- the block
                obtain ⟨c0, hc0, hcell0, _⟩ := each 0 h0
                have hz := hcell0 0 hpos
                have hlt0 : 0 < c0.length := by omega
                rw [List.getElem?_eq_getElem hlt0] at hz
                have hspot : a.spot = none ∧ ∃ c t f, w.heap[a.block]? = some (.cells c t f) := by
                  have : ((a.add (0 * k0.length)).add 0).block = a.block := by simp [Addr.add]
                  unfold World.cell? at hz
                  split at hz
                  · rename_i c t f hh
                    split at hz
                    · cases hz
                    · rename_i hs
                      refine ⟨?_, c, t, f, ?_⟩
                      · revert hs; simp [Addr.add]
                      · rw [← hh]; simp [Addr.add]
                  · cases hz
                obtain ⟨hsp, c, t', f, hh⟩ := hspot
                obtain ⟨b, o, sp⟩ := a
                simp only at hsp hh
                subst hsp
                have cellat : ∀ i, i < len → ∀ j, j < k0.length → ∃ v, c[o + (i * k0.length + j)]? = some v := fun i hi j hj => by
                  obtain ⟨c1, hc1, hcell1, _⟩ := each i hi
                  have := hcell1 j hj
                  rw [Addr.add_mid, Addr.add_mid, cell_row, hh, rowCell_some, List.getElem?_eq_getElem (by omega)] at this
                  rw [Nat.add_assoc] at this
                  exact ⟨_, this⟩
                have hfit : o + len * k0.length ≤ c.size := by
                  obtain ⟨v, hv⟩ := cellat (len - 1) (by omega) (k0.length - 1) (by omega)
                  have := (Array.getElem?_eq_some_iff.1 hv).1
                  have e1 : (len - 1) * k0.length + k0.length = len * k0.length := by
                    rw [← Nat.succ_mul]; congr 1; omega
                  omega
                refine ⟨some ⟨b, o, none⟩, len, cap, (c.toList.drop o).take (len * k0.length), rfl, hl, hm, ⟨by simp; omega, .inr ⟨b, o, c, t', f, rfl, hh, rfl⟩⟩, by simp, fun i hi j hjlt => ?_⟩
                obtain ⟨c1, hc1, hcell1, hk1⟩ := each i hi
                obtain ⟨v, hv, hkd⟩ := hk1.2 j k0[j] (List.getElem?_eq_getElem hjlt)
                refine ⟨v, ?_, hkd⟩
                have hlt : i * k0.length + j < len * k0.length := by
                  have : (i + 1) * k0.length ≤ len * k0.length := Nat.mul_le_mul_right _ (by omega)
                  rw [Nat.add_mul] at this
                  omega
                rw [List.getElem?_take_of_lt hlt, List.getElem?_drop]
                have h7 := hcell1 j hjlt
                rw [Addr.add_mid, Addr.add_mid, cell_row, hh, rowCell_some, hv] at h7
                rw [← h7, Array.getElem?_toList, Nat.add_assoc]
          obtain ⟨v, rfl, hv⟩ := hS
          refine ⟨rfl, fun j kd hj => ?_⟩
          match j, hj with
          | 0, hj => simp at hj; subst hj; exact ⟨_, rfl, hv⟩
        · cases hk
      · cases hk
    · rename_i n e hu
      split at hk
      · rename_i k0 hk0
        split at hk
        · rename_i hc
          injection hk with hk; subst hk
          obtain ⟨xs, q, _, _, hl, hxl, hel⟩ := DataW.trod_array hu hx
          refine (are_rows hc.1 (fun cs x h => trod_kinds d e k0 hk0 q cs x h) n cs (by rw [hl, hc.2]) fun i hi => ?_)
          have := hel i hi
          rw [hc.1, List.getElem?_eq_getElem (by omega)] at this
          exact ⟨_, this⟩
        · cases hk
      · cases hk
    · rename_i fs hu
      split at hk
      · rename_i k0 hk0
        split at hk
        · rename_i hc
          injection hk with hk; subst hk
          obtain ⟨xs, q, _, _, hl, hxl, hel⟩ := DataW.trod_struct hu hx
          have := kinds_fields (m := q) (K := kinds P d) (fun t ks h cs x hx => trod_kinds d t ks h q cs x hx) fs.toList 0 k0 cs hk0 (by rw [hl, hc]; omega) (fun f hf => by
            obtain ⟨i, hi, he⟩ := List.getElem_of_mem hf
            have hfi : fs[i]? = some f := by rw [← he]; simp at hi ⊢
            have := hel i f hfi
            have hlt : i < xs.length := by rw [hxl]; exact (Array.getElem?_eq_some_iff.1 hfi).1
            rw [List.getElem?_eq_getElem hlt] at this
            exact ⟨_, this⟩)
          rw [List.drop_zero] at this
          exact this
        · cases hk
      · cases hk
    · cases hk
/-- An argument that is a slice. -/
theorem open_sl {r : Reach} {b0 : Nat} {t e : TypeId} {v : Value} {d : DataW H} {ps : List MemPlace} {n : Nat} {kd : Kd} (hu : P.underlying t = some (.slice e)) (hk : kinds P n t = some [kd])
    (hok : Value.okWide P w r b0 t v) (h : DataW.Trod enc P w base spare held t v d ps) : IsKd w kd v := by
  obtain ⟨m, hf⟩ := h
  have := trod_kinds n t _ hk m _ _ hf
  obtain ⟨a, l, c, rfl⟩ := okWide_slice hu hok
  obtain ⟨u, h1, h2⟩ := this.2 0 kd rfl
  simp [Value.cells] at h1
  rw [h1]; exact h2
end

/-- Cells of one kind of integers. -/
theorem AreKd.ints {w : World} {m : Nat} {k : IntKind} {cs : List Value} (h : AreKd w (List.replicate m (.int k)) cs) : ∃ ns : List Int, ns.length = m ∧ cs = ns.map (Value.int k) ∧ ∀ x ∈ ns, (Lit.int k x).wf = true := by
  have hl : cs.length = m := by simpa using h.1
  obtain ⟨ns, e, hw⟩ := ints_of_cells (k := k) cs (fun i hi => by
    obtain ⟨v, h1, h2⟩ := h.2 i (.int k) (by rw [List.getElem?_replicate, if_pos (by omega)])
    rw [IsKd] at h2
    obtain ⟨n, rfl, hw⟩ := h2
    exact ⟨n, h1, hw⟩)
  exact ⟨ns, by rw [← hl, e]; simp, e, hw⟩
theorem AreKd.cut {w : World} {ks ks' : List Kd} {cs : List Value} (h : AreKd w (ks ++ ks') cs) : ∃ c1 c2, cs = c1 ++ c2 ∧ AreKd w ks c1 ∧ AreKd w ks' c2 := by
  have hl : cs.length = ks.length + ks'.length := by simpa using h.1
  refine ⟨cs.take ks.length, cs.drop ks.length, by simp, ⟨by simp; omega, fun j kd hj => ?_⟩, ⟨by simp; omega, fun j kd hj => ?_⟩⟩
  · have hlt : j < ks.length := (List.getElem?_eq_some_iff.1 hj).1
    rw [List.getElem?_take_of_lt hlt]
    exact h.2 j kd (by rw [List.getElem?_append_left hlt]; exact hj)
  · rw [List.getElem?_drop]
    exact h.2 _ kd (by rw [List.getElem?_append_right (by omega)]; simpa using hj)
theorem AreKd.head {w : World} {k : Kd} {ks : List Kd} {cs : List Value} (h : AreKd w (k :: ks) cs) : ∃ v c, cs = v :: c ∧ IsKd w k v ∧ AreKd w ks c := by
  obtain ⟨c1, c2, rfl, h1, h2⟩ := AreKd.cut (ks := [k]) (ks' := ks) h
  obtain ⟨v, hv, hk⟩ := h1.2 0 k rfl
  match c1, h1.1 with
  | [u], _ => simp at hv; subst hv; exact ⟨u, c2, rfl, hk, h2⟩
/-- A slice's elements. -/
theorem IsKd.rows {w : World} {ks : List Kd} {v : Value} (h : IsKd w (.slice ks) v) : ∃ A n c, ∃ xs : List Value, v = .slice A n c ∧ n ≤ c ∧ c ≤ maxLen ∧ Sl w ks.length A n xs ∧ (A = none → c = 0) ∧ ∀ i, i < n → AreKd w ks ((xs.drop (i * ks.length)).take ks.length) := by
  rw [IsKd] at h
  obtain ⟨A, n, c, xs, rfl, hn, hc, hs, h0, hx⟩ := h
  refine ⟨A, n, c, xs, rfl, hn, hc, hs, h0, fun i hi => ?_⟩
  have hle : (i + 1) * ks.length ≤ n * ks.length := Nat.mul_le_mul_right _ (by omega)
  rw [Nat.add_mul] at hle
  refine ⟨by rw [List.length_take, List.length_drop, hs.1]; omega, fun j kd hj => ?_⟩
  have hlt : j < ks.length := (List.getElem?_eq_some_iff.1 hj).1
  obtain ⟨u, h1, h2⟩ := hx i hi j hlt
  have e : ks[j] = kd := by rw [List.getElem?_eq_getElem hlt] at hj; exact Option.some.inj hj
  rw [e] at h2
  exact ⟨u, by rw [List.getElem?_take_of_lt hlt, List.getElem?_drop]; exact h1, h2⟩
/-- The kinds of a line's cells, of a slice of lines. -/
def kLine : List Kd := List.replicate 8 (.int .u64)
/-- A slice of integers of one kind. -/
theorem IsKd.ints {w : World} {k : IntKind} {v : Value} (h : IsKd w (.slice [.int k]) v) : ∃ A n c, ∃ xs : List Int, v = .slice A n c ∧ n ≤ c ∧ c ≤ maxLen ∧ Sl w 1 A n (xs.map (Value.int k)) ∧ ∀ x ∈ xs, (Lit.int k x).wf = true := by
  obtain ⟨A, n, c, xs, rfl, hn, hc, hs, h0, hx⟩ := h.rows
  have hl : xs.length = n := by simpa using hs.1
  obtain ⟨ns, e, hw⟩ := ints_of_cells (k := k) xs (fun i hi => by
    have h1 := hx i (by omega)
    have e1 : (xs.drop (i * [Kd.int k].length)).take [Kd.int k].length = [xs[i]] := by
      simp only [List.length_cons, List.length_nil, Nat.zero_add, Nat.mul_one]
      rw [List.drop_eq_getElem_cons hi]; rfl
    rw [e1] at h1
    obtain ⟨v, c, h2, h3, _⟩ := h1.head
    injection h2 with h2 _
    rw [IsKd] at h3
    obtain ⟨m, rfl, hw⟩ := h3
    exact ⟨m, by rw [List.getElem?_eq_getElem hi, h2], hw⟩)
  exact ⟨A, n, c, ns, rfl, hn, hc, by rw [← e]; exact hs, hw⟩
end Go.Proofs.YtcjoinhngdfdmaaGreatDoor
end
section
namespace Go.Proofs.YtcjoinhngdfdmaaGreatDoor
open Go.RowKit
set_option linter.unusedVariables false
set_option maxHeartbeats 1000000

/-! ### The operations, one by one -/
theorem fadd (x y : Int) (w : World) : Calls Tryz.prog 127 #[.int .u64 x, .int .u64 y] w fun e w' => e = .returned (.int .u64 (IntKind.u64.wrap (x + y))) ∧ w = w' := by
  go_enter Tryz.func127, Tryz.ntmps127
  go_wp2
  go_ret
  exact ⟨rfl, rfl⟩
theorem fsub (x y : Int) (w : World) : Calls Tryz.prog 128 #[.int .u64 x, .int .u64 y] w fun e w' => e = .returned (.int .u64 (IntKind.u64.wrap (x - y))) ∧ w = w' := by
  go_enter Tryz.func128, Tryz.ntmps128
  go_wp2
  go_ret
  exact ⟨rfl, rfl⟩
theorem fand (x y : Int) (w : World) : Calls Tryz.prog 129 #[.int .u64 x, .int .u64 y] w fun e w' => e = .returned (.int .u64 (bits .and .u64 x y)) ∧ w = w' := by
  go_enter Tryz.func129, Tryz.ntmps129
  go_wp2
  go_ret
  exact ⟨rfl, rfl⟩
theorem fxor (x y : Int) (w : World) : Calls Tryz.prog 130 #[.int .u64 x, .int .u64 y] w fun e w' => e = .returned (.int .u64 (bits .xor .u64 x y)) ∧ w = w' := by
  go_enter Tryz.func130, Tryz.ntmps130
  go_wp2
  go_ret
  exact ⟨rfl, rfl⟩
theorem fshl (x y : Int) (hy : 0 ≤ y) (w : World) : Calls Tryz.prog 131 #[.int .u64 x, .int .u64 y] w fun e w' => e = .returned (.int .u64 (IntKind.u64.wrap (x * 2 ^ (y % 64).toNat))) ∧ w = w' := by
  have h1 : 0 ≤ y % 64 := by omega
  have h2 : (y % 64).toNat < 64 := by omega
  go_enter Tryz.func131, Tryz.ntmps131
  go_wp2
  go_ret
  exact ⟨rfl, rfl⟩
theorem fshr (x y : Int) (hy : 0 ≤ y) (w : World) : Calls Tryz.prog 132 #[.int .u64 x, .int .u64 y] w fun e w' => e = .returned (.int .u64 (x / 2 ^ (y % 64).toNat)) ∧ w = w' := by
  have h1 : 0 ≤ y % 64 := by omega
  have h2 : (y % 64).toNat < 64 := by omega
  go_enter Tryz.func132, Tryz.ntmps132
  go_wp2
  go_ret
  exact ⟨rfl, rfl⟩
/-- Does it reckon? -/
def doK (op : Int) : Bool := decide (op = 2 ∨ op = 3 ∨ op = 4 ∨ op = 5 ∨ op = 6 ∨ op = 7)
theorem field_r (r g : Value) (w : World) : (Instr.field 176 (.agg #[r, g]) 0).run Tryz.prog w = .ok r w := by kernel_rfl
theorem some_r (n : Nat) (w : World) : (binOp .eql 173 (.func (.func n) #[] #[]) .nilFunc).run Tryz.prog w = .ok (.bool false) w := by kernel_rfl
theorem nil_r (w : World) : (binOp .eql 173 .nilFunc .nilFunc).run Tryz.prog w = .ok (.bool true) w := by kernel_rfl
theorem gdo_any (op b c : Int) (hc : 0 ≤ c) (w : World) : Calls Tryz.prog 43 #[.int .i64 op, .int .u64 b, .int .u64 c] w fun e w' => e = .returned (.tuple #[.int .u64 (doV op b c), .bool (doK op)]) ∧ w' = mapW w 10 := by
  have hl := look_map op w
  by_cases h2 : op = 2
  · subst h2
    rw [show recF 2 = .func (.func 127) #[] #[] from rfl] at hl
    have hf := field_r (.func (.func 127) #[] #[]) (goF 2) (mapW w 10)
    have hn := some_r 127 (mapW w 10)
    go_enter Tryz.func43, Tryz.ntmps43
    go_wp2_with (first | (go_at_call 79; refine (ops_any _).mono ?_; rintro e w' ⟨rfl, rfl⟩) | (go_at_call 127; refine (fadd _ _  _).mono ?_; rintro e w' ⟨rfl, rfl⟩))
    go_ret2
    exact ⟨rfl, rfl⟩
  by_cases h3 : op = 3
  · subst h3
    rw [show recF 3 = .func (.func 128) #[] #[] from rfl] at hl
    have hf := field_r (.func (.func 128) #[] #[]) (goF 3) (mapW w 10)
    have hn := some_r 128 (mapW w 10)
    go_enter Tryz.func43, Tryz.ntmps43
    go_wp2_with (first | (go_at_call 79; refine (ops_any _).mono ?_; rintro e w' ⟨rfl, rfl⟩) | (go_at_call 128; refine (fsub _ _  _).mono ?_; rintro e w' ⟨rfl, rfl⟩))
    go_ret2
    exact ⟨rfl, rfl⟩
  by_cases h4 : op = 4
  · subst h4
    rw [show recF 4 = .func (.func 129) #[] #[] from rfl] at hl
    have hf := field_r (.func (.func 129) #[] #[]) (goF 4) (mapW w 10)
    have hn := some_r 129 (mapW w 10)
    go_enter Tryz.func43, Tryz.ntmps43
    go_wp2_with (first | (go_at_call 79; refine (ops_any _).mono ?_; rintro e w' ⟨rfl, rfl⟩) | (go_at_call 129; refine (fand _ _  _).mono ?_; rintro e w' ⟨rfl, rfl⟩))
    go_ret2
    exact ⟨rfl, rfl⟩
  by_cases h5 : op = 5
  · subst h5
    rw [show recF 5 = .func (.func 130) #[] #[] from rfl] at hl
    have hf := field_r (.func (.func 130) #[] #[]) (goF 5) (mapW w 10)
    have hn := some_r 130 (mapW w 10)
    go_enter Tryz.func43, Tryz.ntmps43
    go_wp2_with (first | (go_at_call 79; refine (ops_any _).mono ?_; rintro e w' ⟨rfl, rfl⟩) | (go_at_call 130; refine (fxor _ _  _).mono ?_; rintro e w' ⟨rfl, rfl⟩))
    go_ret2
    exact ⟨rfl, rfl⟩
  by_cases h6 : op = 6
  · subst h6
    rw [show recF 6 = .func (.func 131) #[] #[] from rfl] at hl
    have hf := field_r (.func (.func 131) #[] #[]) (goF 6) (mapW w 10)
    have hn := some_r 131 (mapW w 10)
    go_enter Tryz.func43, Tryz.ntmps43
    go_wp2_with (first | (go_at_call 79; refine (ops_any _).mono ?_; rintro e w' ⟨rfl, rfl⟩) | (go_at_call 131; refine (fshl _ _ hc _).mono ?_; rintro e w' ⟨rfl, rfl⟩))
    go_ret2
    exact ⟨rfl, rfl⟩
  by_cases h7 : op = 7
  · subst h7
    rw [show recF 7 = .func (.func 132) #[] #[] from rfl] at hl
    have hf := field_r (.func (.func 132) #[] #[]) (goF 7) (mapW w 10)
    have hn := some_r 132 (mapW w 10)
    go_enter Tryz.func43, Tryz.ntmps43
    go_wp2_with (first | (go_at_call 79; refine (ops_any _).mono ?_; rintro e w' ⟨rfl, rfl⟩) | (go_at_call 132; refine (fshr _ _ hc _).mono ?_; rintro e w' ⟨rfl, rfl⟩))
    go_ret2
    exact ⟨rfl, rfl⟩
  rw [show recF op = .nilFunc by simp [recF, h2, h3, h4, h5, h6, h7]] at hl
  rw [show doV op b c = 0 by simp [doV, h2, h3, h4, h5, h6, h7], show doK op = false by simp [doK, h2, h3, h4, h5, h6, h7]]
  have hf := field_r .nilFunc (goF op) (mapW w 10)
  have hn := nil_r (mapW w 10)
  clear h2 h3 h4 h5 h6 h7
  go_enter Tryz.func43, Tryz.ntmps43
  go_wp2_with (go_at_call 79; refine (ops_any _).mono ?_; rintro e w' ⟨rfl, rfl⟩)
  go_ret2
  exact ⟨rfl, rfl⟩
end Go.Proofs.YtcjoinhngdfdmaaGreatDoor
end
section
namespace Go.Proofs.YtcjoinhngdfdmaaGreatDoor
open Go.RowKit
set_option linter.unusedVariables false
set_option maxHeartbeats 1000000

/-! ### A region whose last operation waits for all others but one, which nobody waits for: one walk serves -/
section
variable {P : Program} {md : Region.Mode} {ops : Array Oper} {C : World → Prop}
/-- Each operation ahead of n, but u, is waited for by one behind it, which is not u. -/
def sinkU (md : Region.Mode) (ops : Array Oper) (n u : Nat) : Bool :=
  (List.range n).all fun i => decide (i = u) || (List.range (n + 1)).any fun j => decide (i < j) && decide (j ≠ u) && Region.waitsFor md ops j i
def lexTailU (md : Region.Mode) (ops : Array Oper) (n u : Nat) : Bool :=
  Region.noSelect ops && decide (ops.size = n + 1) && decide (u < n) && sinkU md ops n u && Region.lexHead md ops (ops.size - n) n 0 (Array.replicate ops.size false)
theorem waitsU {n u : Nat} {ls : Array Bool} (hn : n < ops.size) (hs : sinkU md ops n u = true) (inv : HeadInv md ops n ls) :
    ∀ (d i : Nat), n - i = d → i < n → i ≠ u → ls.getD i true = false → n ∉ Region.ready md ops ls := by
  intro d
  induction d using Nat.strongRecOn with
  | _ d ih =>
    intro i hd hi hiu hun hr
    obtain ⟨_, ot, hot, hall⟩ := mem_ready.1 hr
    have h1 := List.all_eq_true.1 hs i (List.mem_range.2 hi)
    simp only [Bool.or_eq_true, decide_eq_true_eq, hiu, false_or] at h1
    obtain ⟨j, hj, h2⟩ := List.any_eq_true.1 h1
    simp only [Bool.and_eq_true, decide_eq_true_eq] at h2
    obtain ⟨⟨hij, hju⟩, hwf⟩ := h2
    have hjn : j ≤ n := by have := List.mem_range.1 hj; omega
    obtain ⟨oj, hoj, e, he, hb, hon⟩ := Region.waitsFor_spec hwf
    by_cases hjt : j = n
    · subst hjt
      have : oj = ot := Option.some.inj (hoj.symm.trans hot)
      subst this
      have h2 := hall e he hb
      rw [hon, getD_both hun] at h2
      cases h2
    · cases hl : ls.getD j false with
      | true =>
        have h2 := inv.closed j oj hoj hl e he hb
        rw [hon, getD_both hun] at h2
        cases h2
      | false =>
        have hjs : j < ls.size := by rw [inv.size]; omega
        exact ih (n - j) (by omega) j rfl (by omega) hju (getD_in hjs hl) hr
/-- The ways through the first n operations, in every world of the class; where u alone is left, the last one may come first. -/
def waysU (P : Program) (md : Region.Mode) (ops : Array Oper) (C : World → Prop) (n u : Nat) (L : Array Bool → Act → Prop) : Nat → Array Bool → Act → Prop
  | 0, ls, a => L ls a
  | f + 1, ls, a => Region.ready md ops ls ≠ [] ∧ (∀ i ∈ Region.ready md ops ls, i < n → qOp P ops C i (waysU P md ops C n u L f (ls.setIfInBounds i true)) a) ∧
    ((∀ i ∈ Region.ready md ops ls, i < n) ∨ (f = 0 ∧ u ∈ Region.ready md ops ls ∧ ∃ ou v, ops[u]? = some ou ∧ Yields P ops ou v a ∧
      (∀ j oj, ops[j]? = some oj → j ≠ u → ls.getD j true = false → (∀ e ∈ oj.after, Region.binds md e = true → e.on ≠ u) → ou.apart ops oj = true) ∧ L (ls.setIfInBounds u true) (a.put ou.dst v)))
theorem waysU.any {n u g : Nat} {L : Array Bool → Act → Prop} {Q' : Exit → Act → World → Prop} (hsel : ∀ (j : Nat) (o : Oper) cs b, ops[j]? = some o → o.op ≠ .select cs b)
    (hQ : ∀ d v c a w, Q' (.panic c) (Act.put a d v) w → Q' (.panic c) a w) (hL : ∀ ls a w, C w → L ls a → wpAny P md ops Q' g ls a w) :
    ∀ (f : Nat) (ls : Array Bool) (a : Act) (w : World), C w → waysU P md ops C n u L f ls a → wpAny P md ops Q' (f + g) ls a w := by
  intro f
  induction f with
  | zero =>
    intro ls a w hw h
    rw [Nat.zero_add]
    exact hL ls a w hw h
  | succ f ih =>
    intro ls a w hw h
    obtain ⟨h1, h2, h3⟩ := h
    rcases h3 with h3 | ⟨rfl, hu, ou, v, hou, hy, hfree, hl⟩
    · rw [Nat.add_right_comm]
      exact ⟨fun e => (h1 e).elim, fun i hi => wpOp_of_qOp hw (fun a' w' hw' h' => ih _ a' w' hw' h') (h2 i hi (h3 i hi))⟩
    · rw [Nat.zero_add, Nat.add_comm]
      exact wpAny_first hou hsel (fun c a w => hQ ou.dst v c a w) g ls a w hfree hu hy (hL _ _ w hw hl)
theorem waysU.first {n u i : Nat} {oi : Oper} {v : Value} {L : Array Bool → Act → Prop} (hi : ops[i]? = some oi) (hsel : ∀ (j : Nat) (o : Oper) cs b, ops[j]? = some o → o.op ≠ .select cs b)
    (hs : sinkU md ops n u = true) (hsz : ops.size = n + 1) (hin : i < n) (hend : ∀ ls a, L ls a → ∀ j ∈ Region.ready md ops ls, n ≤ j) (hyu : i = u → ∀ a, YieldsIn P ops C oi v a → Yields P ops oi v a) :
    ∀ (f : Nat) (ls : Array Bool) (a : Act), HeadInv md ops n ls → (∀ j oj, ops[j]? = some oj → j ≠ i → ls.getD j true = false → (∀ e ∈ oj.after, Region.binds md e = true → e.on ≠ i) → oi.apart ops oj = true) →
      i ∈ Region.ready md ops ls → YieldsIn P ops C oi v a → waysU P md ops C n u L f (ls.setIfInBounds i true) (a.put oi.dst v) → waysU P md ops C n u L (f + 1) ls a := by
  have hlt : ∀ {ls : Array Bool} {j : Nat}, j ∈ Region.ready md ops ls → j ≠ n → j < n := fun hj hne => by
    obtain ⟨_, oj, hoj, _⟩ := mem_ready.1 hj
    have := (Array.getElem?_eq_some_iff.1 hoj).1
    omega
  intro f
  induction f with
  | zero =>
    intro ls a inv hfree hr hy H
    refine ⟨fun e => (by rw [e] at hr; cases hr), fun j hj hjn => ?_, ?_⟩
    · by_cases hji : j = i
      · rw [hji]; exact hy.qOp hi H
      · exact absurd hjn (Nat.not_lt_of_le (hend _ _ H j (ready_mono hj hji)))
    · by_cases hiu : i = u
      · subst hiu
        exact .inr ⟨rfl, hr, oi, v, hi, hyu rfl a hy, hfree, H⟩
      · exact .inl fun j hj => hlt hj fun e => waitsU (by omega) hs inv _ i rfl hin hiu (mem_ready.1 hr).1 (e ▸ hj)
  | succ f ih =>
    intro ls a inv hfree hr hy H
    refine ⟨fun e => (by rw [e] at hr; cases hr), fun j hj hjn => ?_, .inl fun j hj => hlt hj fun e => ?_⟩
    · by_cases hji : j = i
      · rw [hji]; exact hy.qOp hi H
      · obtain ⟨hju, oj, hoj, hall⟩ := mem_ready.1 hj
        have hno : ∀ e ∈ oj.after, Region.binds md e = true → e.on ≠ i := by
          intro e he hb heq
          have h1 := hall e he hb
          rw [heq, getD_both (mem_ready.1 hr).1] at h1
          cases h1
        refine qOp_mono (fun a' h3 => ih _ a' (inv.set hj hjn) ?_ (ready_mono hr (Ne.symm hji)) h3.1 ?_) (qOp_put hoj (hfree j oj hoj hji hju hno) (fun cs b => hsel i oi cs b hi) (fun cs b => hsel j oj cs b hoj) hy (H.2.1 j (ready_mono hj hji) hjn))
        · intro k ok hk hki hu hno2
          refine hfree k ok hk hki ?_ hno2
          by_cases hjk : j = k
          · rw [← hjk]; exact hju
          · rwa [getD_set_ne true hjk] at hu
        · rw [Array.setIfInBounds_comm _ _ hji]
          exact h3.2
    · subst e
      by_cases hiu : i = u
      · have hj' := ready_mono hj (show j ≠ i by omega)
        rcases H.2.2 with h3 | ⟨_, hu, _⟩
        · exact absurd (h3 j hj') (Nat.lt_irrefl _)
        · rw [← hiu] at hu
          have h4 := (mem_ready.1 hu).1
          have his : i < ls.size := by rw [inv.size]; omega
          simp [Array.getD, his] at h4
      · exact waitsU (by omega) hs inv _ i rfl hin hiu (mem_ready.1 hr).1 hj
theorem waysU.lex {n u g : Nat} {Lq : Act → Prop} (hsel : Region.noSelect ops = true) (hs : sinkU md ops n u = true) (hsz : ops.size = n + 1) (hyu : ∀ ou v a, ops[u]? = some ou → YieldsIn P ops C ou v a → Yields P ops ou v a) :
    ∀ (l : List Oper) (k : Nat) (ls : Array Bool) (a : Act), (∀ j, j < l.length → l[j]? = ops[k + j]?) → k + l.length = n → HeadInv md ops n ls → Region.lexHead md ops g l.length k ls = true → wpQuiet P ops C Lq l a →
      waysU P md ops C n u (fun ls' a' => Region.seqB md ops g n ls' = true ∧ Lq a') l.length ls a := by
  intro l
  induction l with
  | nil =>
    intro k ls a _ hk _ hB h
    have e : k = n := by simpa using hk
    rw [e] at hB
    exact ⟨by simpa [Region.lexHead] using hB, h⟩
  | cons o l ih =>
    intro k ls a hl hk inv hB h
    have h0 : ops[k]? = some o := by simpa using (hl 0 (by simp)).symm
    rw [List.length_cons] at hk hB
    simp only [Region.lexHead, Bool.and_eq_true] at hB
    have hkn : k < n := by omega
    have hr : k ∈ Region.ready md ops ls := by simpa using hB.1.1
    have hq : qOp P ops C k (wpQuiet P ops C Lq l) a := by unfold qOp; simp only [h0]; exact h
    obtain ⟨v, hy, hK⟩ := yieldsIn_of_qOp h0 hq
    exact waysU.first h0 (Region.noSelect_spec hsel) hs hsz hkn (fun ls' a' hL => seqB_ready hL.1) (fun e a' hy' => hyu o v a' (e ▸ h0) hy') l.length ls a inv (Region.free_spec h0 hB.1.2) hr hy
      (ih (k + 1) _ _ (fun j hj => by have := hl (j + 1) (by simp; omega); simpa [Nat.add_assoc, Nat.add_comm 1 j] using this) (by omega) (inv.set hr hkn) hB.2 hK)
/-- One walk of the first n operations, then the last one; u may come behind it. -/
theorem wp_region_aft_loose {id : Nat} {Q : Exit → Act → World → Prop} {a : Act} {w : World} {l : List Oper} (N n u : Nat) (hm : P.follows .mixedOrders = true) (hB : lexTailU .any l.toArray n u = true)
    (hyu : ∀ ou v a, l[u]? = some ou → YieldsIn P l.toArray (fun w' => ∃ x : Aft N w, w' = x.w) ou v a → Yields P l.toArray ou v a) (hQ : ∀ d v c a w, Q (.panic c) (Act.put a d v) w → Q (.panic c) a w)
    (h : wpQuiet P l.toArray (fun w' => ∃ x : Aft N w, w' = x.w) (fun a' => ∀ w', (∃ x : Aft N w, w' = x.w) → wpList P l.toArray Q (l.drop n) a' w') (l.take n) a) : (Code.region id l.toArray true).wp P Q a w := by
  simp only [lexTailU, Bool.and_eq_true, decide_eq_true_eq] at hB
  obtain ⟨⟨⟨⟨hsel, hsz⟩, hun⟩, hs⟩, hlex⟩ := hB
  have hn' : l.length = n + 1 := by simpa using hsz
  have ht : (l.take n).length = n := by rw [List.length_take]; omega
  have hd : (l.drop n).length = l.toArray.size - n := by simp
  have inv0 : HeadInv .any l.toArray n (Array.replicate l.toArray.size false) :=
    ⟨by simp, fun j oj _ e => (by rw [getD_replicate_false] at e; cases e), fun t _ e => getD_in (by simpa using e) (getD_replicate_false _ _)⟩
  have H := waysU.lex (md := .any) (u := u) (g := l.toArray.size - n) hsel hs hsz (fun ou v a ho hy => hyu ou v a (by simpa using ho) hy) (l.take n) 0 _ a (fun j hj => by
    rw [ht] at hj
    simp [hj]) (by omega) inv0 (by rw [ht]; exact hlex) h
  refine wp_region_any hm ?_
  have hW : ∃ x : Aft N w, ({ w with drawn := w.drawn + 1 } : World) = x.w := ⟨⟨_, (Below.refl _ _).drew⟩, rfl⟩
  have := waysU.any (Q' := Q) (g := l.toArray.size - n) (Region.noSelect_spec hsel) hQ (fun ls a' w' hw' hL => by
    have := wpAny_of_seq (md := .any) (Q' := Q) (l.drop n) n ls a' w' (fun j => by simp [List.getElem?_drop]) (by rw [hd]; exact hL.1) (hL.2 w' hw')
    rwa [hd] at this) _ _ _ _ hW H
  rw [ht, show n + (l.toArray.size - n) = l.toArray.size by omega] at this
  exact this
end
section
variable {P : Program} {ops : Array Oper} {C : World → Prop}
/-- What a part of a tuple is does not hang on the world. -/
theorem extract_yields {o : Oper} {x : Operand} {ix : Nat} (ho : o.op = .extract x ix) {w0 : World} (hw0 : C w0) {v : Value} {a : Act} (h : YieldsIn P ops C o v a) : Yields P ops o v a := by
  rcases h with ⟨h1, h2⟩ | h
  · refine .inl ⟨h1, fun w => ?_⟩
    have h3 := h2 w0 hw0
    unfold Oper.quietAt execOp at h3
    unfold execOp
    rw [ho] at h3 ⊢
    simp only at h3 ⊢
    unfold Instr.extract at h3 ⊢
    generalize a.eval x = y at *
    cases y
    case tuple vs =>
      cases hv : vs[ix]? with
      | some z =>
        simp only [hv] at h3 ⊢
        have h4 : z = v := by simpa [Oper.quietUpon] using h3
        simp [h4]
      | none =>
        simp only [hv] at h3
        simp [Oper.quietUpon, stuck] at h3
    all_goals simp [Oper.quietUpon, stuck] at h3
  · exact .inr h
end
end Go.Proofs.YtcjoinhngdfdmaaGreatDoor
end
