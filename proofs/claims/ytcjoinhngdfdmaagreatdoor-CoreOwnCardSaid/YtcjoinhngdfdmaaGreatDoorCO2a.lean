/- What a statement of layer 13 needs further, and for the last file the statement itself: for every argument. No condition. -/
import Derived.Test.YtcjoinhngdfdmaaGreatDoorCLar
import Derived.Test.YtcjoinhngdfdmaaGreatDoorCLaa
import Derived.Test.YtcjoinhngdfdmaaGreatDoorCLab
import Derived.Test.YtcjoinhngdfdmaaGreatDoorCLac
import Derived.Test.YtcjoinhngdfdmaaGreatDoorCLad
import Derived.Test.YtcjoinhngdfdmaaGreatDoorCLae
import Derived.Test.YtcjoinhngdfdmaaGreatDoorCLaf
import Derived.Test.YtcjoinhngdfdmaaGreatDoorCLag
import Derived.Test.YtcjoinhngdfdmaaGreatDoorCLah
import Derived.Test.YtcjoinhngdfdmaaGreatDoorCLai
import Derived.Test.YtcjoinhngdfdmaaGreatDoorCLaj
import Derived.Test.YtcjoinhngdfdmaaGreatDoorCLak
import Derived.Test.YtcjoinhngdfdmaaGreatDoorCLal
import Derived.Test.YtcjoinhngdfdmaaGreatDoorCLam
import Derived.Test.YtcjoinhngdfdmaaGreatDoorCLan
import Derived.Test.YtcjoinhngdfdmaaGreatDoorCLao
import Derived.Test.YtcjoinhngdfdmaaGreatDoorCLap
import Derived.Test.YtcjoinhngdfdmaaGreatDoorCLaq
import Derived.Below
import Derived.BigQuiet
import Derived.ChangeAlike
import Derived.ChangeArms
import Derived.ChangeKeysEq
import Derived.Deep.Cut
import Derived.Deep.CutBlock
import Derived.Deep.CutRange
import Derived.Deep.DeepCutAuto
import Derived.Deep.MidRow
import Derived.Deep.Quiet
import Derived.Deep.QuietTactic
import Derived.Deep.RegionHeld3
import Derived.Deep.RegionLaw
import Derived.Deep.RegionWith
import Derived.DeepKeys
import Derived.Defers
import Derived.IntWalk
import Derived.Laws.Bits64b
import Derived.Laws.BitsAllLaws
import Derived.Laws.Entries
import Derived.Laws.LoneSync
import Derived.Laws.NewBlocks
import Derived.Laws.Pointers
import Derived.Laws.StructEq
import Derived.Lib.Hide
import Derived.Lib.SliceRun
import Derived.Maps.OwnOps
import Derived.OpenShut
import Derived.OwnWalk
import Derived.ProofKit
import Derived.RegionCalls
import Derived.RegionTactic
import Derived.StillTail
import Derived.StillTailTactics
import Derived.Tactics
import Derived.Tactics2
import Derived.Test.YtcjoinhngdfdmaaGreatDoorChecked
import Derived.WalkKit
import Derived.WideShapes
section
namespace Go.Proofs.YtcjoinhngdfdmaaGreatDoor
open Go.ChangeShapes Go.WideShapes Go.ChangeAt Go.RowKit

section
variable {H : Type} {enc : TypeId × Value → H} {P : Program} {w : World} {base base' : Nat} {spare : Nat → Bool} {held : Bool}

theorem ints_of_cells {k : IntKind} : ∀ (cs : List Value), (∀ i, i < cs.length → ∃ m, cs[i]? = some (.int k m) ∧ (Lit.int k m).wf = true) → ∃ ns : List Int, cs = ns.map (Value.int k) ∧ ∀ x ∈ ns, (Lit.int k x).wf = true
  | [], _ => ⟨[], rfl, by simp⟩
  | c :: cs, h => by
    obtain ⟨m, h0, hw⟩ := h 0 (by simp)
    obtain ⟨ns, e, hn⟩ := ints_of_cells cs (fun i hi => by have := h (i + 1) (by simpa using hi); simpa using this)
    simp at h0
    subst h0; subst e
    exact ⟨m :: ns, rfl, by simpa [hw] using hn⟩

end

end Go.Proofs.YtcjoinhngdfdmaaGreatDoor
end
section
namespace Go.Proofs.YtcjoinhngdfdmaaGreatDoor
open Go.ChangeShapes Go.WideShapes Go.ChangeAt Go.RowKit
set_option linter.unusedVariables false

/-- The fields one behind the other. -/
def kindsFields (P : Program) (K : TypeId → Option (List Kd)) : List Field → Nat → Option (List Kd)
  | [], _ => some []
  | f :: fs, off => match K f.type with
    | some ks => if f.offset = off ∧ P.cellsOf f.type = ks.length then (kindsFields P K fs (off + ks.length)).map (ks ++ ·) else none
    | none => none
/-- The kinds of a type's cells. -/
def kinds (P : Program) : Nat → TypeId → Option (List Kd)
  | 0, _ => none
  | d + 1, t => match P.underlying t with
    | some (.int k) => some [.int k]
    | some .bool => some [.bool]
    | some .string => some [.str]
    | some (.slice e) => match kinds P d e with
      | some ks => if P.cellsOf e = ks.length ∧ 0 < ks.length then some [.slice ks] else none
      | none => none
    | some (.array n e) => match kinds P d e with
      | some ks => if P.cellsOf e = ks.length ∧ P.cellsOf t = n * ks.length then some (List.replicate n ks).flatten else none
      | none => none
    | some (.struct fs) => match kindsFields P (kinds P d) fs.toList 0 with
      | some ks => if P.cellsOf t = ks.length then some ks else none
      | none => none
    | _ => none

section
variable {H : Type} {enc : TypeId × Value → H} {P : Program} {w : World} {base : Nat} {spare : Nat → Bool} {held : Bool}

theorem trod_bool' {t : TypeId} {m : Nat} {cs : List Value} {x : DataW H × List MemPlace} (hu : P.underlying t = some .bool) (h : DataW.trod enc P w base spare held m t cs = some x) : ∃ b, cs = [.bool b] := by
  cases m with
  | zero => simp [DataW.trod] at h
  | succ m =>
    unfold DataW.trod at h
    rw [hu] at h
    split at h <;> simp_all
theorem trod_str' {t : TypeId} {m : Nat} {cs : List Value} {x : DataW H × List MemPlace} (hu : P.underlying t = some .string) (h : DataW.trod enc P w base spare held m t cs = some x) : ∃ s, cs = [.string s] ∧ s.size ≤ maxLen := by
  cases m with
  | zero => simp [DataW.trod] at h
  | succ m =>
    unfold DataW.trod at h
    rw [hu] at h
    split at h <;> simp_all
theorem cells_at {a : Addr} {n : Nat} {cs : List Value} (h : w.cells? base a n = some cs) : cs.length = n ∧ ∀ i, i < n → w.cell? (a.add i) = cs[i]? :=
  let ⟨_, h1, h2⟩ := World.cells?_some h; ⟨h1, h2⟩

theorem kinds_fields {m : Nat} {K : TypeId → Option (List Kd)}
    (ih : ∀ (t : TypeId) (ks : List Kd), K t = some ks → ∀ (cs : List Value) (x : DataW H × List MemPlace), DataW.trod enc P w base spare held m t cs = some x → AreKd w ks cs) :
    ∀ (fs : List Field) (off : Nat) (ks : List Kd) (cs : List Value), kindsFields P K fs off = some ks → cs.length = off + ks.length →
      (∀ f ∈ fs, ∃ x, DataW.trod enc P w base spare held m f.type ((cs.drop f.offset).take (P.cellsOf f.type)) = some x) → AreKd w ks (cs.drop off)
  | [], off, ks, cs, hk, hl, _ => by
    simp [kindsFields] at hk; subst hk
    exact ⟨by simp at hl ⊢; omega, by simp⟩
  | f :: fs, off, ks, cs, hk, hl, hf => by
    simp only [kindsFields] at hk
    split at hk
    · rename_i k0 hK
      split at hk
      · rename_i hc
        obtain ⟨h1, h2⟩ := hc
        obtain ⟨k1, hk1, rfl⟩ := Option.map_eq_some_iff.1 hk
        obtain ⟨x, hx⟩ := hf f (by simp)
        rw [h1, h2] at hx
        have a1 := ih _ _ hK _ _ hx
        have a2 := kinds_fields ih fs (off + k0.length) k1 cs hk1 (by simp at hl; omega) (fun g hg => hf g (by simp [hg]))
        have e : cs.drop off = (cs.drop off).take k0.length ++ cs.drop (off + k0.length) := by
          rw [← List.drop_drop, List.take_append_drop]
        rw [e]
        exact a1.append a2
      · cases hk
    · cases hk

theorem are_rows {m : Nat} {e : TypeId} {k0 : List Kd} (hce : P.cellsOf e = k0.length)
    (ih : ∀ (cs : List Value) (x : DataW H × List MemPlace), DataW.trod enc P w base spare held m e cs = some x → AreKd w k0 cs) :
    ∀ (n : Nat) (cs : List Value), cs.length = n * k0.length → (∀ i, i < n → ∃ x, DataW.trod enc P w base spare held m e ((cs.drop (i * k0.length)).take k0.length) = some x) → AreKd w (List.replicate n k0).flatten cs
  | 0, cs, hl, _ => by
    have : cs = [] := List.eq_nil_of_length_eq_zero (by simpa using hl)
    subst this; exact ⟨by simp, by simp⟩
  | n + 1, cs, hl, hf => by
    rw [List.replicate_succ, List.flatten_cons]
    have e : cs = cs.take k0.length ++ cs.drop k0.length := (List.take_append_drop _ _).symm
    rw [e]
    obtain ⟨x, hx⟩ := hf 0 (by omega)
    simp only [Nat.zero_mul, List.drop_zero] at hx
    refine (ih _ _ hx).append (are_rows hce ih n _ (by rw [List.length_drop, hl, Nat.add_mul]; omega) fun i hi => ?_)
    obtain ⟨y, hy⟩ := hf (i + 1) (by omega)
    rw [List.drop_drop]
    rw [show k0.length + i * k0.length = (i + 1) * k0.length by rw [Nat.add_mul]; omega]
    exact ⟨y, hy⟩

theorem trod_kinds : ∀ (d : Nat) (t : TypeId) (ks : List Kd), kinds P d t = some ks → ∀ (m : Nat) (cs : List Value) (x : DataW H × List MemPlace), DataW.trod enc P w base spare held m t cs = some x → AreKd w ks cs
  | 0, t, ks, hk, _, _, _, _ => by simp [kinds] at hk
  | d + 1, t, ks, hk, m, cs, x, hx => by
    simp only [kinds] at hk
    split at hk
    · rename_i k hu
      injection hk with hk; subst hk
      obtain ⟨n, rfl, _, hw⟩ := DataW.trod_int hu hx
      refine ⟨rfl, fun j kd hj => ?_⟩
      match j, hj with
      | 0, hj => simp at hj; subst hj; exact ⟨_, rfl, by rw [IsKd]; exact ⟨n, rfl, hw⟩⟩
    · rename_i hu
      injection hk with hk; subst hk
      obtain ⟨b, rfl⟩ := trod_bool' hu hx
      refine ⟨rfl, fun j kd hj => ?_⟩
      match j, hj with
      | 0, hj => simp at hj; subst hj; exact ⟨_, rfl, by rw [IsKd]; exact ⟨b, rfl⟩⟩
    · rename_i hu
      injection hk with hk; subst hk
      obtain ⟨s, rfl, hs⟩ := trod_str' hu hx
      refine ⟨rfl, fun j kd hj => ?_⟩
      match j, hj with
      | 0, hj => simp at hj; subst hj; exact ⟨_, rfl, by rw [IsKd]; exact ⟨s, rfl, hs⟩⟩
    · rename_i e hu
      split at hk
      · rename_i k0 hk0
        split at hk
        · rename_i hc
          obtain ⟨hce, hpos⟩ := hc
          injection hk with hk; subst hk
          have hS : ∃ v, cs = [v] ∧ IsKd w (.slice k0) v := by
            simp only [IsKd]
            rcases DataW.trod_slice hu hx with ⟨rfl, _⟩ | ⟨a, len, cap, elems, rest, n, _, rfl, _, hb, hl, hm, hlen, hel, _, _⟩
            · exact ⟨_, rfl, none, 0, 0, [], rfl, Nat.le_refl _, by simp [maxLen], ⟨by simp, .inl rfl⟩, fun _ => rfl, fun i hi => by omega⟩
            · refine ⟨_, rfl, ?_⟩
              rw [hce] at hel
              have each : ∀ i, i < len → ∃ cs', cs'.length = k0.length ∧ (∀ j, j < k0.length → w.cell? ((a.add (i * k0.length)).add j) = cs'[j]?) ∧ AreKd w k0 cs' := fun i hi => by
                have h1 := hel i hi
                have h2 : i < elems.length := by omega
                rw [List.getElem?_eq_getElem h2, Option.bind_eq_some_iff] at h1
                obtain ⟨cs', h3, h4⟩ := h1
                obtain ⟨h5, h6⟩ := cells_at h3
                exact ⟨cs', h5, h6, trod_kinds d e k0 hk0 n cs' _ h4⟩
              rcases Nat.eq_zero_or_pos len with h0 | h0
              · subst h0
                exact ⟨some a, 0, cap, [], rfl, hl, hm, ⟨by simp, .inl rfl⟩, by simp, fun i hi => by omega⟩
              · -- the block
                obtain ⟨c0, hc0, hcell0, _⟩ := each 0 h0
                have hz := hcell0 0 hpos
                have hlt0 : 0 < c0.length := by omega
                rw [List.getElem?_eq_getElem hlt0] at hz
                have hspot : a.spot = none ∧ ∃ c t f, w.heap[a.block]? = some (.cells c t f) := by
                  have : ((a.add (0 * k0.length)).add 0).block = a.block := by simp [Addr.add]
                  unfold World.cell? at hz
                  split at hz
                  · rename_i c t f hh
                    split at hz
                    · cases hz
                    · rename_i hs
                      refine ⟨?_, c, t, f, ?_⟩
                      · revert hs; simp [Addr.add]
                      · rw [← hh]; simp [Addr.add]
                  · cases hz
                obtain ⟨hsp, c, t', f, hh⟩ := hspot
                obtain ⟨b, o, sp⟩ := a
                simp only at hsp hh
                subst hsp
                have cellat : ∀ i, i < len → ∀ j, j < k0.length → ∃ v, c[o + (i * k0.length + j)]? = some v := fun i hi j hj => by
                  obtain ⟨c1, hc1, hcell1, _⟩ := each i hi
                  have := hcell1 j hj
                  rw [Addr.add_mid, Addr.add_mid, cell_row, hh, rowCell_some, List.getElem?_eq_getElem (by omega)] at this
                  rw [Nat.add_assoc] at this
                  exact ⟨_, this⟩
                have hfit : o + len * k0.length ≤ c.size := by
                  obtain ⟨v, hv⟩ := cellat (len - 1) (by omega) (k0.length - 1) (by omega)
                  have := (Array.getElem?_eq_some_iff.1 hv).1
                  have e1 : (len - 1) * k0.length + k0.length = len * k0.length := by
                    rw [← Nat.succ_mul]; congr 1; omega
                  omega
                refine ⟨some ⟨b, o, none⟩, len, cap, (c.toList.drop o).take (len * k0.length), rfl, hl, hm, ⟨by simp; omega, .inr ⟨b, o, c, t', f, rfl, hh, rfl⟩⟩, by simp, fun i hi j hjlt => ?_⟩
                obtain ⟨c1, hc1, hcell1, hk1⟩ := each i hi
                obtain ⟨v, hv, hkd⟩ := hk1.2 j k0[j] (List.getElem?_eq_getElem hjlt)
                refine ⟨v, ?_, hkd⟩
                have hlt : i * k0.length + j < len * k0.length := by
                  have : (i + 1) * k0.length ≤ len * k0.length := Nat.mul_le_mul_right _ (by omega)
                  rw [Nat.add_mul] at this
                  omega
                rw [List.getElem?_take_of_lt hlt, List.getElem?_drop]
                have h7 := hcell1 j hjlt
                rw [Addr.add_mid, Addr.add_mid, cell_row, hh, rowCell_some, hv] at h7
                rw [← h7, Array.getElem?_toList, Nat.add_assoc]
          obtain ⟨v, rfl, hv⟩ := hS
          refine ⟨rfl, fun j kd hj => ?_⟩
          match j, hj with
          | 0, hj => simp at hj; subst hj; exact ⟨_, rfl, hv⟩
        · cases hk
      · cases hk
    · rename_i n e hu
      split at hk
      · rename_i k0 hk0
        split at hk
        · rename_i hc
          injection hk with hk; subst hk
          obtain ⟨xs, q, _, _, hl, hxl, hel⟩ := DataW.trod_array hu hx
          refine (are_rows hc.1 (fun cs x h => trod_kinds d e k0 hk0 q cs x h) n cs (by rw [hl, hc.2]) fun i hi => ?_)
          have := hel i hi
          rw [hc.1, List.getElem?_eq_getElem (by omega)] at this
          exact ⟨_, this⟩
        · cases hk
      · cases hk
    · rename_i fs hu
      split at hk
      · rename_i k0 hk0
        split at hk
        · rename_i hc
          injection hk with hk; subst hk
          obtain ⟨xs, q, _, _, hl, hxl, hel⟩ := DataW.trod_struct hu hx
          have := kinds_fields (m := q) (K := kinds P d) (fun t ks h cs x hx => trod_kinds d t ks h q cs x hx) fs.toList 0 k0 cs hk0 (by rw [hl, hc]; omega) (fun f hf => by
            obtain ⟨i, hi, he⟩ := List.getElem_of_mem hf
            have hfi : fs[i]? = some f := by rw [← he]; simp at hi ⊢
            have := hel i f hfi
            have hlt : i < xs.length := by rw [hxl]; exact (Array.getElem?_eq_some_iff.1 hfi).1
            rw [List.getElem?_eq_getElem hlt] at this
            exact ⟨_, this⟩)
          rw [List.drop_zero] at this
          exact this
        · cases hk
      · cases hk
    · cases hk
/-- An argument that is a slice. -/
theorem open_sl {r : Reach} {b0 : Nat} {t e : TypeId} {v : Value} {d : DataW H} {ps : List MemPlace} {n : Nat} {kd : Kd} (hu : P.underlying t = some (.slice e)) (hk : kinds P n t = some [kd])
    (hok : Value.okWide P w r b0 t v) (h : DataW.Trod enc P w base spare held t v d ps) : IsKd w kd v := by
  obtain ⟨m, hf⟩ := h
  have := trod_kinds n t _ hk m _ _ hf
  obtain ⟨a, l, c, rfl⟩ := okWide_slice hu hok
  obtain ⟨u, h1, h2⟩ := this.2 0 kd rfl
  simp [Value.cells] at h1
  rw [h1]; exact h2
end

theorem AreKd.cut {w : World} {ks ks' : List Kd} {cs : List Value} (h : AreKd w (ks ++ ks') cs) : ∃ c1 c2, cs = c1 ++ c2 ∧ AreKd w ks c1 ∧ AreKd w ks' c2 := by
  have hl : cs.length = ks.length + ks'.length := by simpa using h.1
  refine ⟨cs.take ks.length, cs.drop ks.length, by simp, ⟨by simp; omega, fun j kd hj => ?_⟩, ⟨by simp; omega, fun j kd hj => ?_⟩⟩
  · have hlt : j < ks.length := (List.getElem?_eq_some_iff.1 hj).1
    rw [List.getElem?_take_of_lt hlt]
    exact h.2 j kd (by rw [List.getElem?_append_left hlt]; exact hj)
  · rw [List.getElem?_drop]
    exact h.2 _ kd (by rw [List.getElem?_append_right (by omega)]; simpa using hj)
theorem AreKd.head {w : World} {k : Kd} {ks : List Kd} {cs : List Value} (h : AreKd w (k :: ks) cs) : ∃ v c, cs = v :: c ∧ IsKd w k v ∧ AreKd w ks c := by
  obtain ⟨c1, c2, rfl, h1, h2⟩ := AreKd.cut (ks := [k]) (ks' := ks) h
  obtain ⟨v, hv, hk⟩ := h1.2 0 k rfl
  match c1, h1.1 with
  | [u], _ => simp at hv; subst hv; exact ⟨u, c2, rfl, hk, h2⟩
/-- A slice's elements. -/
theorem IsKd.rows {w : World} {ks : List Kd} {v : Value} (h : IsKd w (.slice ks) v) : ∃ A n c, ∃ xs : List Value, v = .slice A n c ∧ n ≤ c ∧ c ≤ maxLen ∧ Sl w ks.length A n xs ∧ (A = none → c = 0) ∧ ∀ i, i < n → AreKd w ks ((xs.drop (i * ks.length)).take ks.length) := by
  rw [IsKd] at h
  obtain ⟨A, n, c, xs, rfl, hn, hc, hs, h0, hx⟩ := h
  refine ⟨A, n, c, xs, rfl, hn, hc, hs, h0, fun i hi => ?_⟩
  have hle : (i + 1) * ks.length ≤ n * ks.length := Nat.mul_le_mul_right _ (by omega)
  rw [Nat.add_mul] at hle
  refine ⟨by rw [List.length_take, List.length_drop, hs.1]; omega, fun j kd hj => ?_⟩
  have hlt : j < ks.length := (List.getElem?_eq_some_iff.1 hj).1
  obtain ⟨u, h1, h2⟩ := hx i hi j hlt
  have e : ks[j] = kd := by rw [List.getElem?_eq_getElem hlt] at hj; exact Option.some.inj hj
  rw [e] at h2
  exact ⟨u, by rw [List.getElem?_take_of_lt hlt, List.getElem?_drop]; exact h1, h2⟩
/-- A slice of integers of one kind. -/
theorem IsKd.ints {w : World} {k : IntKind} {v : Value} (h : IsKd w (.slice [.int k]) v) : ∃ A n c, ∃ xs : List Int, v = .slice A n c ∧ n ≤ c ∧ c ≤ maxLen ∧ Sl w 1 A n (xs.map (Value.int k)) ∧ ∀ x ∈ xs, (Lit.int k x).wf = true := by
  obtain ⟨A, n, c, xs, rfl, hn, hc, hs, h0, hx⟩ := h.rows
  have hl : xs.length = n := by simpa using hs.1
  obtain ⟨ns, e, hw⟩ := ints_of_cells (k := k) xs (fun i hi => by
    have h1 := hx i (by omega)
    have e1 : (xs.drop (i * [Kd.int k].length)).take [Kd.int k].length = [xs[i]] := by
      simp only [List.length_cons, List.length_nil, Nat.zero_add, Nat.mul_one]
      rw [List.drop_eq_getElem_cons hi]; rfl
    rw [e1] at h1
    obtain ⟨v, c, h2, h3, _⟩ := h1.head
    injection h2 with h2 _
    rw [IsKd] at h3
    obtain ⟨m, rfl, hw⟩ := h3
    exact ⟨m, by rw [List.getElem?_eq_getElem hi, h2], hw⟩)
  exact ⟨A, n, c, ns, rfl, hn, hc, by rw [← e]; exact hs, hw⟩
end Go.Proofs.YtcjoinhngdfdmaaGreatDoor
end
section
namespace Go.Proofs.YtcjoinhngdfdmaaGreatDoor
open Go.RowKit
set_option linter.unusedVariables false

/-! ### Elements one behind the other -/
section
variable {α : Type} {enc : α → List Value} {k : Nat}
theorem cat_nil : cat enc [] = [] := rfl
end

/-! ### A variable that is a slice of its own block be, at its head (be is q where there is none yet) -/
section
variable {α : Type} {enc : α → List Value} {k bytes : Nat} {P : Program} {t ty e : TypeId} {z : Value}
end
/-! ### A value of many cells put into a row of cells, as the walk spells it -/
end Go.Proofs.YtcjoinhngdfdmaaGreatDoor
end
section
namespace Go.Proofs.YtcjoinhngdfdmaaGreatDoor
open Go.RowKit
set_option linter.unusedVariables false
set_option maxHeartbeats 1000000

/-! ### The program of CoreOwn -/
def oIn (v : Int) (i : Nat) : List Ins := [⟨1, 1, 0, 0, v⟩, ⟨9, 1, 0, 0, 192 + 8 * ((i % 3 : Nat) : Int)⟩, ⟨8, 2, 0, 0, 192 + 8 * ((i % 3 : Nat) : Int)⟩, ⟨21, 2, 0, 0, 0⟩]
def oJ (vs : List Int) (k : Nat) : List Ins := ((List.range k).map (fun i => oIn (vs.getD i 0) i)).flatten
def oIs (vs : List Int) : List Ins := oJ vs vs.length ++ [⟨22, 0, 0, 0, 0⟩]
theorem oJ_succ (vs : List Int) (k : Nat) : oJ vs (k + 1) = oJ vs k ++ oIn (vs.getD k 0) k := by simp [oJ, List.range_succ]
theorem oJ_len (vs : List Int) : ∀ k, (oJ vs k).length = 4 * k
  | 0 => rfl
  | k + 1 => by rw [oJ_succ, List.length_append, oJ_len vs k]; rfl
theorem oIs_len (vs : List Int) : (oIs vs).length = 4 * vs.length + 1 := by rw [oIs, List.length_append, oJ_len]; rfl
theorem oJ_at (vs : List Int) {j ph : Nat} (hp : ph < 4) : ∀ {k}, j < k → (oJ vs k)[4 * j + ph]? = (oIn (vs.getD j 0) j)[ph]?
  | 0, h => by omega
  | k + 1, h => by
    rw [oJ_succ]
    have hl := oJ_len vs k
    by_cases hk : j < k
    · rw [List.getElem?_append_left (by omega)]
      exact oJ_at vs hp hk
    · have : j = k := by omega
      subst this
      rw [List.getElem?_append_right (by omega), hl]
      congr 1; omega
theorem oIs_at (vs : List Int) {j ph : Nat} (hj : j < vs.length) (hp : ph < 4) : (oIs vs)[4 * j + ph]? = (oIn (vs.getD j 0) j)[ph]? := by
  rw [oIs, List.getElem?_append_left (by rw [oJ_len]; omega)]
  exact oJ_at vs hp hj
theorem oIs_end (vs : List Int) : (oIs vs)[4 * vs.length]? = some ⟨22, 0, 0, 0, 0⟩ := by
  rw [oIs, List.getElem?_append_right (by rw [oJ_len]; omega), oJ_len, Nat.sub_self]; rfl
theorem three_of (i : Nat) : ((i % 3 : Nat) : Int) = 0 ∨ ((i % 3 : Nat) : Int) = 1 ∨ ((i % 3 : Nat) : Int) = 2 := by omega
theorem goodM_small {x : Int} (h : 0 ≤ x ∧ x ≤ 256) : goodM x 1 = true := by
  show goodMb x true false = true
  unfold goodMb
  rw [if_pos rfl, if_neg (by simp)]
  simp; omega
theorem oIn_good {v : Int} (h : 0 ≤ v ∧ v ≤ 256) (i : Nat) : ∀ x ∈ oIn v i, goodI x = true := by
  intro x hx
  simp only [oIn, List.mem_cons, List.not_mem_nil, or_false] at hx
  rcases hx with rfl | rfl | rfl | rfl
  · show (isOpB 1 && (goodR 1 true && (goodR 0 false && (goodR 0 false && goodM v 1)))) = true
    rw [goodM_small h]; rfl
  · rcases three_of i with e | e | e <;> rw [e] <;> decide
  · rcases three_of i with e | e | e <;> rw [e] <;> decide
  · decide
def ValsOk (vs : List Int) : Prop := ∀ v ∈ vs, 1 ≤ v ∧ v ≤ 256
theorem ValsOk.get {vs : List Int} (h : ValsOk vs) (i : Nat) : 0 ≤ vs.getD i 0 ∧ vs.getD i 0 ≤ 256 := by
  by_cases hi : i < vs.length
  · have e : vs.getD i 0 = vs[i] := by simp [List.getD, List.getElem?_eq_getElem hi]
    rw [e]
    have := h _ (List.getElem_mem hi)
    omega
  · have e : vs.getD i 0 = 0 := by simp [List.getD, List.getElem?_eq_none (Nat.le_of_not_lt hi)]
    omega
theorem oJ_good {vs : List Int} (h : ValsOk vs) : ∀ k, ∀ x ∈ oJ vs k, goodI x = true
  | 0 => by simp [oJ]
  | k + 1 => by
    intro x hx
    rw [oJ_succ, List.mem_append] at hx
    rcases hx with hx | hx
    · exact oJ_good h k x hx
    · exact oIn_good (h.get k) k x hx
theorem oIs_good {vs : List Int} (h : ValsOk vs) : ∀ x ∈ oIs vs, goodI x = true := by
  intro x hx
  rw [oIs, List.mem_append] at hx
  rcases hx with hx | hx
  · exact oJ_good h _ x hx
  · simp only [List.mem_singleton] at hx
    subst hx; decide
/-! ### Exec at a known instruction -/
theorem exec_at {is : List Ins} (hg : ∀ i ∈ is, goodI i = true) {S : Mst} {Q : Co} (hru : Q.ru = true) (hp : Q.pr.map (·.1) = is.map codeI) {i : Ins} (hi : is[Q.pc]? = some i) : execC kc S Q = insC kc S (readC Q (codeI i)) i := by
  unfold execC
  rw [if_pos hru]
  have h1 : (Q.pr.map (·.1))[Q.pc]? = (is.map codeI)[Q.pc]? := by rw [hp]
  rw [List.getElem?_map, List.getElem?_map, hi] at h1
  cases hq : Q.pr[Q.pc]? with
  | none => rw [hq] at h1; simp at h1
  | some x =>
    rw [hq] at h1
    obtain ⟨u, r⟩ := x
    simp only [Option.map_some, Option.some.injEq] at h1
    subst h1
    obtain ⟨g1, g2, _⟩ := dec_code (hg i (List.mem_of_getElem? hi))
    simp only [g1, g2, if_pos]
theorem read_pr {us : List Int} {Q : Co} {u : Int} (hp : Q.pr.map (·.1) = us) (hu : us[Q.pc]? = some u) : (readC Q u).pr.map (·.1) = us := by
  show (Q.pr.set Q.pc (u, true)).map (·.1) = us
  rw [List.map_set, hp]
  obtain ⟨h1, h2⟩ := List.getElem?_eq_some_iff.1 hu
  subst h2
  exact List.set_getElem_self h1
def tO (j ph : Nat) : Nat := if 2 ≤ ph then j + 1 else j
theorem addr_own {Q : Co} {a b : Int} (hr : Q.rg = [0, a, b, 0, 0, 0, 0, 0]) (i : Nat) (op r : Int) : atB kc.li (addrI Q ⟨op, r, 0, 0, 192 + 8 * ((i % 3 : Nat) : Int)⟩) = true ∧ lineOf (addrI Q ⟨op, r, 0, 0, 192 + 8 * ((i % 3 : Nat) : Int)⟩) = 3 ∧ wordOf (addrI Q ⟨op, r, 0, 0, 192 + 8 * ((i % 3 : Nat) : Int)⟩) = ((i % 3 : Nat) : Int) := by
  have h0 : regA Q 0 = 0 := by unfold regA; rw [hr]; rfl
  unfold addrI
  simp only [h0]
  rcases three_of i with e | e | e <;> rw [e] <;> decide
/-! ### What a round of CoreOwn is -/
def rO1 (d : Bool) (S : Mst) (Q : Co) : Did13 := if d then ⟨(drainC kc (execC kc S Q).S (execC kc S Q).Q).S, (drainC kc (execC kc S Q).S (execC kc S Q).Q).Q, (execC kc S Q).ev ++ (drainC kc (execC kc S Q).S (execC kc S Q).Q).ev⟩ else execC kc S Q
def rO3 (d : Bool) (S : Mst) (Q : Co) : Mst := (upM kc (rO1 d S Q).S 0).1
def rO (d : Bool) (S : Mst) (Q : Co) : Did13 := ⟨(hearM kc (rO3 d S Q) 0).1, (hearC (rO1 d S Q).Q (hearM kc (rO3 d S Q) 0).2.m).1, (rO1 d S Q).ev⟩
/-! ### What lies in the buffer, and in the line -/
def esO (vs : List Int) (s t : Nat) : List Se := (List.range' s (t - s)).map (fun i => ⟨9, 3, ((i % 3 : Nat) : Int), vs.getD i 0, false⟩)
theorem esO_nil {vs : List Int} {s t : Nat} (h : t ≤ s) : esO vs s t = [] := by unfold esO; rw [show t - s = 0 by omega]; rfl
theorem esO_cons {vs : List Int} {s t : Nat} (h : s < t) : esO vs s t = ⟨9, 3, ((s % 3 : Nat) : Int), vs.getD s 0, false⟩ :: esO vs (s + 1) t := by
  unfold esO
  rw [show t - s = (t - (s + 1)) + 1 by omega, List.range'_succ]
  rfl
theorem esO_snoc {vs : List Int} {s t : Nat} (h : s ≤ t) : esO vs s (t + 1) = esO vs s t ++ [⟨9, 3, ((t % 3 : Nat) : Int), vs.getD t 0, false⟩] := by
  unfold esO
  rw [show t + 1 - s = (t - s) + 1 by omega, List.range'_concat, List.map_append, List.map_singleton, Nat.one_mul, show s + (t - s) = t by omega]
theorem esO_len (vs : List Int) (s t : Nat) : (esO vs s t).length = t - s := by simp [esO]
def xO (vs : List Int) : Nat → List Int
  | 0 => [0, 0, 0, 0, 0, 0, 0, 0]
  | s + 1 => (xO vs s).set (s % 3) (vs.getD s 0)
theorem xO_len (vs : List Int) : ∀ s, (xO vs s).length = 8
  | 0 => rfl
  | s + 1 => by rw [xO, List.length_set, xO_len vs s]
theorem xO_last (vs : List Int) (s : Nat) : (xO vs (s + 1)).getD (s % 3) 0 = vs.getD s 0 := by
  have h := xO_len vs s
  rw [xO, List.getD_eq_getElem?_getD, List.getElem?_set_self (by omega)]
  rfl
/-! ### The system while line 3 is the core's -/
def S1own : Mst := (hearM kc (upM kc (storeM kc kS0 0 3 0 0).1 0).1 0).1
def enO : List En := S1own.en
def ownS (st : Int) (l : List Int) (h : l.length = 8) (us u : Int) : Mst := ⟨[⟨([⟨st, 3, l, us, h⟩, sltZ], u), [], [], []⟩, pt0 kc], enO, [], List.replicate (kc.li * 8) 0⟩
def OwnS (S : Mst) (X : List Int) : Prop := ∃ st us u h, (st = 2 ∨ st = 3) ∧ S = ownS st X h us u
theorem own_store {S : Mst} {X : List Int} (h : OwnS S X) (i : Nat) (v : Int) : ∃ S', storeM kc S 0 3 ((i % 3 : Nat) : Int) v = (S', ⟨0, true, msZ, 0⟩) ∧ OwnS S' (X.set (i % 3) v) := by
  obtain ⟨st, us, u, hl, hst, rfl⟩ := h
  have hi : i % 3 = 0 ∨ i % 3 = 1 ∨ i % 3 = 2 := by omega
  refine ⟨ownS 3 (X.set (i % 3) v) (by rw [List.length_set]; exact hl) (u + 1) (u + 1), ?_, 3, u + 1, u + 1, _, .inr rfl, rfl⟩
  rcases hst with rfl | rfl <;> rcases hi with e | e | e <;> simp only [e] <;> rfl
theorem own_load {S : Mst} {X : List Int} (h : OwnS S X) (i : Nat) : ∃ S', loadM kc S 0 3 ((i % 3 : Nat) : Int) = (S', ⟨X.getD (i % 3) 0, true, msZ, 0⟩) ∧ OwnS S' X := by
  obtain ⟨st, us, u, hl, hst, rfl⟩ := h
  have hi : i % 3 = 0 ∨ i % 3 = 1 ∨ i % 3 = 2 := by omega
  refine ⟨ownS st X hl (u + 1) (u + 1), ?_, st, u + 1, u + 1, _, hst, rfl⟩
  rcases hst with rfl | rfl <;> rcases hi with e | e | e <;> simp only [e] <;> rfl
theorem own_rest {S : Mst} {X : List Int} (h : OwnS S X) : (upM kc S 0).1 = S ∧ (hearM kc S 0).1 = S := by
  obtain ⟨st, us, u, hl, hst, rfl⟩ := h
  exact ⟨rfl, rfl⟩
theorem fresh_rest : (upM kc kS0 0).1 = kS0 ∧ (hearM kc kS0 0).1 = kS0 := ⟨rfl, rfl⟩
theorem fresh_store (i : Nat) (v : Int) : (storeM kc kS0 0 3 ((i % 3 : Nat) : Int) v).2.hit = false ∧ OwnS (hearM kc (upM kc (storeM kc kS0 0 3 ((i % 3 : Nat) : Int) v).1 0).1 0).1 [0, 0, 0, 0, 0, 0, 0, 0] := by
  have hi : i % 3 = 0 ∨ i % 3 = 1 ∨ i % 3 = 2 := by omega
  rcases hi with e | e | e <;> simp only [e] <;> exact ⟨rfl, 2, 2, 2, rfl, .inl rfl, by kernel_rfl⟩
/-- The state of the run ahead of a round. -/
structure OW (vs : List Int) (S : Mst) (Q : Co) (j ph s : Nat) (own : Bool) : Prop where
  id : Q.id = 0
  rm : Q.rm = 2
  wt : Q.wt = 0
  pr : Q.pr.map (·.1) = (oIs vs).map codeI
  pc : Q.pc = 4 * j + ph
  p4 : ph < 4
  jn : j ≤ vs.length
  end0 : j = vs.length → ph = 0
  run : Q.ru = true ∨ j = vs.length
  rg : ∃ a b, Q.rg = [0, a, b, 0, 0, 0, 0, 0] ∧ (1 ≤ ph → a = vs.getD j 0) ∧ (ph = 3 → b = vs.getD j 0)
  es : Q.es = esO vs s (tO j ph)
  st1 : s ≤ tO j ph
  st2 : tO j ph ≤ s + 2
  mem : if own = true then OwnS S (xO vs s) else S = kS0 ∧ s = 0
def isTell (e : Ev) : Bool := e.kd == 8
def isStore (e : Ev) : Bool := e.kd == 3
def tellsO (l : List Ev) : List Int := (l.filter isTell).map (·.va)
def storesO (l : List Ev) : List Int := (l.filter isStore).map (·.va)
theorem tellsO_app (a b : List Ev) : tellsO (a ++ b) = tellsO a ++ tellsO b := by simp [tellsO]
theorem storesO_app (a b : List Ev) : storesO (a ++ b) = storesO a ++ storesO b := by simp [storesO]
/-- What is to do yet. -/
def todoO (n : Nat) (ru : Bool) (j ph s : Nat) (own : Bool) : Nat := (if ru = true then 4 * n + 1 - (4 * j + ph) else 0) + (n - s) + (if own = true then 0 else 1)
theorem todo_pc {n j ph j' ph' s : Nat} {own : Bool} (h : 4 * j + ph < 4 * j' + ph') (h2 : 4 * j + ph < 4 * n + 1) : todoO n true j' ph' s own < todoO n true j ph s own := by
  unfold todoO
  rw [if_pos rfl, if_pos rfl]
  omega
theorem u64_own {v : Int} (h : 0 ≤ v ∧ v ≤ 256) : IntKind.u64.wrap v = v := by
  have := IntKind.wrap_u64 v
  omega
theorem exec_own {vs : List Int} (hv : ValsOk vs) {S : Mst} {Q : Co} {j ph s : Nat} {own : Bool} (h : OW vs S Q j ph s own) (hgo : Q.ru = true ∨ Q.es ≠ []) :
    ∃ j' ph', OW vs (execC kc S Q).S (execC kc S Q).Q j' ph' s own ∧ vs.take j ++ tellsO (execC kc S Q).ev = vs.take j' ∧ storesO (execC kc S Q).ev = [] ∧
      (todoO vs.length (execC kc S Q).Q.ru j' ph' s own < todoO vs.length Q.ru j ph s own ∨ (todoO vs.length (execC kc S Q).Q.ru j' ph' s own = todoO vs.length Q.ru j ph s own ∧ (execC kc S Q).Q.es ≠ [])) := by
  obtain ⟨id, ru, rg, pr, pc, rm, es, wt⟩ := Q
  obtain ⟨hid, hrm, hwt, hpr, hpc, hp4, hjn, hend, hrun, ⟨a, b, hrg, hra, hrb⟩, hes, hs1, hs2, hmem⟩ := h
  simp only at hid hrm hwt hpr hpc hrun hrg hes hgo
  subst hid hrm hwt hpc hrg
  cases ru with
  | false =>
    have e : execC kc S ⟨0, false, [0, a, b, 0, 0, 0, 0, 0], pr, 4 * j + ph, 2, es, 0⟩ = ⟨S, ⟨0, false, [0, a, b, 0, 0, 0, 0, 0], pr, 4 * j + ph, 2, es, 0⟩, []⟩ := rfl
    rw [e]
    refine ⟨j, ph, ⟨rfl, rfl, rfl, hpr, rfl, hp4, hjn, hend, hrun, ⟨a, b, rfl, hra, hrb⟩, hes, hs1, hs2, hmem⟩, by simp [tellsO], rfl, .inr ⟨rfl, ?_⟩⟩
    rcases hgo with hgo | hgo
    · cases hgo
    · exact hgo
  | true =>
    clear hrun hgo
    by_cases hjl : j = vs.length
    · have hph := hend hjl
      subst hph
      have hi : (oIs vs)[4 * j + 0]? = some ⟨22, 0, 0, 0, 0⟩ := by rw [Nat.add_zero, hjl]; exact oIs_end vs
      have hu : ((oIs vs).map codeI)[4 * j + 0]? = some (codeI ⟨22, 0, 0, 0, 0⟩) := by rw [List.getElem?_map, hi]; rfl
      rw [exec_at (oIs_good hv) (by rfl) hpr hi]
      have hr := read_pr (Q := ⟨0, true, [0, a, b, 0, 0, 0, 0, 0], pr, 4 * j + 0, 2, es, 0⟩) hpr hu
      have e : insC kc S (readC ⟨0, true, [0, a, b, 0, 0, 0, 0, 0], pr, 4 * j + 0, 2, es, 0⟩ (codeI ⟨22, 0, 0, 0, 0⟩)) ⟨22, 0, 0, 0, 0⟩ = ⟨S, stopC (readC ⟨0, true, [0, a, b, 0, 0, 0, 0, 0], pr, 4 * j + 0, 2, es, 0⟩ (codeI ⟨22, 0, 0, 0, 0⟩)), [⟨9, 0, 0, 0, 0⟩]⟩ := by rfl
      rw [e]
      refine ⟨j, 0, ⟨rfl, rfl, rfl, hr, rfl, hp4, hjn, hend, .inr hjl, ⟨a, b, rfl, hra, hrb⟩, hes, hs1, hs2, hmem⟩, by simp [tellsO, isTell], by simp [storesO, isStore], .inl ?_⟩
      show (if false = true then _ else 0) + (vs.length - s) + _ < (if true = true then _ else 0) + (vs.length - s) + _
      rw [if_neg (by simp), if_pos rfl]
      omega
    · have hj : j < vs.length := by omega
      have hat := oIs_at vs hj hp4
      have h4 : ph = 0 ∨ ph = 1 ∨ ph = 2 ∨ ph = 3 := by omega
      rcases h4 with rfl | rfl | rfl | rfl
      · have hi : (oIs vs)[4 * j + 0]? = some ⟨1, 1, 0, 0, vs.getD j 0⟩ := hat
        have hu : ((oIs vs).map codeI)[4 * j + 0]? = some (codeI ⟨1, 1, 0, 0, vs.getD j 0⟩) := by rw [List.getElem?_map, hi]; rfl
        rw [exec_at (oIs_good hv) (by rfl) hpr hi]
        have hr := read_pr (Q := ⟨0, true, [0, a, b, 0, 0, 0, 0, 0], pr, 4 * j + 0, 2, es, 0⟩) hpr hu
        have e : insC kc S (readC ⟨0, true, [0, a, b, 0, 0, 0, 0, 0], pr, 4 * j + 0, 2, es, 0⟩ (codeI ⟨1, 1, 0, 0, vs.getD j 0⟩)) ⟨1, 1, 0, 0, vs.getD j 0⟩ = ⟨S, nextC (setR (readC ⟨0, true, [0, a, b, 0, 0, 0, 0, 0], pr, 4 * j + 0, 2, es, 0⟩ (codeI ⟨1, 1, 0, 0, vs.getD j 0⟩)) 1 (IntKind.u64.wrap (vs.getD j 0))), []⟩ := by rfl
        rw [e, u64_own (hv.get j)]
        refine ⟨j, 1, ⟨rfl, rfl, rfl, hr, rfl, by omega, hjn, fun h => absurd h hjl, .inl rfl, ⟨vs.getD j 0, b, rfl, fun _ => rfl, by omega⟩, hes, hs1, hs2, hmem⟩, by simp [tellsO], rfl, .inl ?_⟩
        show (if true = true then _ else 0) + (vs.length - s) + _ < (if true = true then _ else 0) + (vs.length - s) + _
        rw [if_pos rfl, if_pos rfl]
        omega
      · have ha := hra (by omega)
        subst ha
        obtain ⟨ins, hins⟩ : ∃ ins : Ins, ins = ⟨9, 1, 0, 0, 192 + 8 * ((j % 3 : Nat) : Int)⟩ := ⟨_, rfl⟩
        have hi : (oIs vs)[4 * j + 1]? = some ins := by rw [hins]; exact hat
        have hu : ((oIs vs).map codeI)[4 * j + 1]? = some (codeI ins) := by rw [List.getElem?_map, hi]; rfl
        rw [exec_at (oIs_good hv) (by rfl) hpr hi]
        have hr := read_pr (Q := ⟨0, true, [0, vs.getD j 0, b, 0, 0, 0, 0, 0], pr, 4 * j + 1, 2, es, 0⟩) hpr hu
        obtain ⟨Q', hQ'⟩ : ∃ Q', Q' = readC ⟨0, true, [0, vs.getD j 0, b, 0, 0, 0, 0, 0], pr, 4 * j + 1, 2, es, 0⟩ (codeI ins) := ⟨_, rfl⟩
        obtain ⟨a1, a2, a3⟩ := addr_own (Q := Q') (a := vs.getD j 0) (b := b) (by rw [hQ']; rfl) j 9 1
        have e : insC kc S Q' ins = putC S Q' 12 ⟨9, 3, ((j % 3 : Nat) : Int), vs.getD j 0, false⟩ := by
          have e1 : insC kc S Q' ins = accessC kc S Q' ins := by rw [hins]; rfl
          rw [e1, hins]
          unfold accessC
          rw [a1, a2, a3, if_pos rfl, if_neg (show ¬ ((9 : Int) = 8) by decide), if_pos rfl]
          have : regA Q' 1 = vs.getD j 0 := by rw [hQ']; rfl
          rw [this]
        rw [← hQ', e]
        have hg : goodSe ⟨9, 3, ((j % 3 : Nat) : Int), vs.getD j 0, false⟩ = true := by
          rcases three_of j with e | e | e <;> rw [e] <;> rfl
        unfold putC sbV sbE
        rw [hg, if_pos rfl, if_pos rfl]
        have hl : Q'.es.length = tO j 1 - s := by rw [hQ']; show es.length = _; rw [hes, esO_len]
        have hrm : Q'.rm = 2 := by rw [hQ']; rfl
        have hesQ : Q'.es = esO vs s j := by rw [hQ']; exact hes
        have ht1 : tO j 1 = j := rfl
        have ht2 : tO j 2 = j + 1 := rfl
        rw [ht1] at hs1 hs2 hl
        by_cases hf : j = s + 2
        · rw [if_pos (show Q'.rm ≤ Q'.es.length by rw [hrm, hl]; omega), if_neg (by decide)]
          refine ⟨j, 1, ⟨by rw [hQ']; rfl, hrm, by rw [hQ']; rfl, by rw [hQ']; exact hr, by rw [hQ']; rfl, hp4, hjn, fun h => absurd h hjl, .inl (by rw [hQ']; rfl), ⟨vs.getD j 0, b, by rw [hQ']; rfl, fun _ => rfl, by omega⟩, hesQ, by rw [ht1]; exact hs1, by rw [ht1]; exact hs2, hmem⟩, by simp [tellsO], rfl, .inr ⟨by rw [hQ']; rfl, ?_⟩⟩
          intro hn
          rw [show (⟨S, Q', []⟩ : Did13).Q.es = Q'.es from rfl] at hn
          rw [hn] at hl
          simp at hl
          omega
        · rw [if_neg (show ¬ Q'.rm ≤ Q'.es.length by rw [hrm, hl]; omega), if_pos rfl, if_neg (show ¬ Q'.rm ≤ Q'.es.length by rw [hrm, hl]; omega)]
          refine ⟨j, 2, ⟨by rw [hQ']; rfl, hrm, by rw [hQ']; rfl, by rw [hQ']; exact hr, by rw [hQ']; rfl, by omega, hjn, fun h => absurd h hjl, .inl (by rw [hQ']; rfl), ⟨vs.getD j 0, b, by rw [hQ']; rfl, fun _ => rfl, by omega⟩, ?_, by rw [ht2]; omega, by rw [ht2]; omega, hmem⟩, by simp [tellsO, isTell, evC], by simp [storesO, isStore, evC], .inl ?_⟩
          · rw [ht2, esO_snoc hs1, ← hesQ]
            rfl
          · rw [hQ']
            show (if true = true then _ else 0) + (vs.length - s) + _ < (if true = true then _ else 0) + (vs.length - s) + _
            rw [if_pos rfl, if_pos rfl]
            omega
      · have ha := hra (by omega)
        subst ha
        obtain ⟨ins, hins⟩ : ∃ ins : Ins, ins = ⟨8, 2, 0, 0, 192 + 8 * ((j % 3 : Nat) : Int)⟩ := ⟨_, rfl⟩
        have hi : (oIs vs)[4 * j + 2]? = some ins := by rw [hins]; exact hat
        have hu : ((oIs vs).map codeI)[4 * j + 2]? = some (codeI ins) := by rw [List.getElem?_map, hi]; rfl
        rw [exec_at (oIs_good hv) (by rfl) hpr hi]
        have hr := read_pr (Q := ⟨0, true, [0, vs.getD j 0, b, 0, 0, 0, 0, 0], pr, 4 * j + 2, 2, es, 0⟩) hpr hu
        obtain ⟨Q', hQ'⟩ : ∃ Q', Q' = readC ⟨0, true, [0, vs.getD j 0, b, 0, 0, 0, 0, 0], pr, 4 * j + 2, 2, es, 0⟩ (codeI ins) := ⟨_, rfl⟩
        obtain ⟨a1, a2, a3⟩ := addr_own (Q := Q') (a := vs.getD j 0) (b := b) (by rw [hQ']; rfl) j 8 2
        have e : insC kc S Q' ins = loadC kc S Q' 2 3 ((j % 3 : Nat) : Int) := by
          have e1 : insC kc S Q' ins = accessC kc S Q' ins := by rw [hins]; rfl
          rw [e1, hins]
          unfold accessC
          rw [a1, a2, a3, if_pos rfl, if_pos rfl]
        rw [← hQ', e]
        have hesQ : Q'.es = esO vs s (j + 1) := by rw [hQ']; exact hes
        have ht2 : tO j 2 = j + 1 := rfl
        have ht3 : tO j 3 = j + 1 := rfl
        rw [ht2] at hs1 hs2
        have hid : Q'.id = 0 := by rw [hQ']; rfl
        unfold loadC
        by_cases hsj : s ≤ j
        · have hf : fdO Q'.es 3 ((j % 3 : Nat) : Int) = some ⟨9, 3, ((j % 3 : Nat) : Int), vs.getD j 0, false⟩ := by
            rw [hesQ, esO_snoc hsj]
            unfold fdO
            rw [List.reverse_append, List.reverse_singleton, List.singleton_append, List.find?_cons_of_pos]
            simp [isAt]
          rw [hf]
          refine ⟨j, 3, ⟨by rw [hQ']; rfl, by rw [hQ']; rfl, by rw [hQ']; rfl, by rw [hQ']; exact hr, by rw [hQ']; rfl, by omega, hjn, fun h => absurd h hjl, .inl (by rw [hQ']; rfl), ⟨vs.getD j 0, vs.getD j 0, by rw [hQ']; rfl, fun _ => rfl, fun _ => rfl⟩, hesQ, by rw [ht3]; exact hs1, by rw [ht3]; exact hs2, hmem⟩, by simp [tellsO, isTell, evC], by simp [storesO, isStore, evC], .inl ?_⟩
          rw [hQ']
          show (if true = true then _ else 0) + (vs.length - s) + _ < (if true = true then _ else 0) + (vs.length - s) + _
          rw [if_pos rfl, if_pos rfl]
          omega
        · have hsj' : s = j + 1 := by omega
          have hf : fdO Q'.es 3 ((j % 3 : Nat) : Int) = none := by rw [hesQ, esO_nil (by omega)]; rfl
          rw [hf]
          cases own with
          | false => rw [if_neg (by decide)] at hmem; omega
          | true =>
            rw [if_pos rfl] at hmem
            obtain ⟨S', hld, hS'⟩ := own_load hmem j
            rw [hid, hld]
            subst hsj'
            have hx : (xO vs (j + 1)).getD (j % 3) 0 = vs.getD j 0 := xO_last vs j
            rw [hx, if_pos rfl]
            refine ⟨j, 3, ⟨by rw [hQ']; rfl, by rw [hQ']; rfl, by rw [hQ']; rfl, by rw [hQ']; exact hr, by rw [hQ']; rfl, by omega, hjn, fun h => absurd h hjl, .inl (by rw [hQ']; rfl), ⟨vs.getD j 0, vs.getD j 0, by rw [hQ']; rfl, fun _ => rfl, fun _ => rfl⟩, hesQ, by rw [ht3]; exact hs1, by rw [ht3]; exact hs2, by rw [if_pos rfl]; exact hS'⟩, by simp [tellsO, isTell, evC], by simp [storesO, isStore, evC], .inl ?_⟩
            rw [hQ']
            exact todo_pc (by omega) (by omega)
      · have hb := hrb rfl
        subst hb
        have hi : (oIs vs)[4 * j + 3]? = some ⟨21, 2, 0, 0, 0⟩ := hat
        have hu : ((oIs vs).map codeI)[4 * j + 3]? = some (codeI ⟨21, 2, 0, 0, 0⟩) := by rw [List.getElem?_map, hi]; rfl
        rw [exec_at (oIs_good hv) (by rfl) hpr hi]
        have hr := read_pr (Q := ⟨0, true, [0, a, vs.getD j 0, 0, 0, 0, 0, 0], pr, 4 * j + 3, 2, es, 0⟩) hpr hu
        have e : insC kc S (readC ⟨0, true, [0, a, vs.getD j 0, 0, 0, 0, 0, 0], pr, 4 * j + 3, 2, es, 0⟩ (codeI ⟨21, 2, 0, 0, 0⟩)) ⟨21, 2, 0, 0, 0⟩ = ⟨S, nextC (readC ⟨0, true, [0, a, vs.getD j 0, 0, 0, 0, 0, 0], pr, 4 * j + 3, 2, es, 0⟩ (codeI ⟨21, 2, 0, 0, 0⟩)), [⟨8, 0, 0, 0, vs.getD j 0⟩]⟩ := by rfl
        rw [e]
        have ht3 : tO j 3 = j + 1 := rfl
        have ht0 : tO (j + 1) 0 = j + 1 := rfl
        refine ⟨j + 1, 0, ⟨rfl, rfl, rfl, hr, rfl, by omega, by omega, fun _ => rfl, .inl rfl, ⟨a, vs.getD j 0, rfl, by omega, by omega⟩, hes, by rw [ht0]; rw [ht3] at hs1; exact hs1, by rw [ht0]; rw [ht3] at hs2; exact hs2, hmem⟩, ?_, by simp [storesO, isStore], .inl ?_⟩
        · rw [show tellsO [⟨8, 0, 0, 0, vs.getD j 0⟩] = [vs.getD j 0] from rfl, List.take_succ_eq_append_getElem hj]
          congr 1
          simp [List.getD, List.getElem?_eq_getElem hj]
        · show (if true = true then _ else 0) + (vs.length - s) + _ < (if true = true then _ else 0) + (vs.length - s) + _
          rw [if_pos rfl, if_pos rfl]
          omega
theorem hear_calm {Q : Co} (h : Q.wt = 0) (m : Ms) : hearC Q m = (Q, []) := by
  unfold hearC
  rw [if_pos (Or.inl h)]
theorem OW.sys {vs : List Int} {S S' : Mst} {Q : Co} {j ph s : Nat} {own own' : Bool} (h : OW vs S Q j ph s own) (hm : if own' = true then OwnS S' (xO vs s) else S' = kS0 ∧ s = 0) : OW vs S' Q j ph s own' :=
  ⟨h.id, h.rm, h.wt, h.pr, h.pc, h.p4, h.jn, h.end0, h.run, h.rg, h.es, h.st1, h.st2, hm⟩
theorem OW.pop {vs : List Int} {S S' : Mst} {Q : Co} {j ph s : Nat} {own own' : Bool} {es : List Se} (h : OW vs S Q j ph s own) (hs : s < tO j ph) (he : es = esO vs (s + 1) (tO j ph)) (hm : if own' = true then OwnS S' (xO vs (s + 1)) else S' = kS0 ∧ s + 1 = 0) : OW vs S' { Q with es := es } j ph (s + 1) own' :=
  ⟨h.id, h.rm, h.wt, h.pr, h.pc, h.p4, h.jn, h.end0, h.run, h.rg, he, hs, by have := h.st2; omega, hm⟩
/-- A message or none behind that. -/
theorem OW.calm {vs : List Int} {S : Mst} {Q : Co} {j ph s : Nat} {own : Bool} (h : OW vs S Q j ph s own) : OW vs (hearM kc (upM kc S 0).1 0).1 (hearC Q (hearM kc (upM kc S 0).1 0).2.m).1 j ph s own := by
  rw [hear_calm h.wt]
  refine h.sys ?_
  have hm := h.mem
  cases own with
  | true =>
    rw [if_pos rfl] at hm ⊢
    rw [(own_rest hm).1, (own_rest hm).2]
    exact hm
  | false =>
    rw [if_neg (by decide)] at hm ⊢
    obtain ⟨rfl, h0⟩ := hm
    rw [fresh_rest.1, fresh_rest.2]
    exact ⟨rfl, h0⟩
theorem tO_le {vs : List Int} {S : Mst} {Q : Co} {j ph s : Nat} {own : Bool} (h : OW vs S Q j ph s own) : tO j ph ≤ vs.length := by
  have h1 := h.jn
  have h2 := h.end0
  unfold tO
  split
  · by_cases hj : j = vs.length
    · have := h2 hj; omega
    · omega
  · exact h1
theorem drain_own {vs : List Int} {S : Mst} {Q : Co} {j ph s : Nat} {own : Bool} (h : OW vs S Q j ph s own) :
    ∃ s' own', OW vs (hearM kc (upM kc (drainC kc S Q).S 0).1 0).1 (hearC (drainC kc S Q).Q (hearM kc (upM kc (drainC kc S Q).S 0).1 0).2.m).1 j ph s' own' ∧ vs.take s ++ storesO (drainC kc S Q).ev = vs.take s' ∧ tellsO (drainC kc S Q).ev = [] ∧
      (drainC kc S Q).Q.ru = Q.ru ∧ (drainC kc S Q).Q.wt = 0 ∧ todoO vs.length Q.ru j ph s' own' ≤ todoO vs.length Q.ru j ph s own ∧ (Q.es ≠ [] → todoO vs.length Q.ru j ph s' own' < todoO vs.length Q.ru j ph s own) := by
  have htl := tO_le h
  by_cases hst : s < tO j ph
  · have hes := h.es
    rw [esO_cons hst] at hes
    have hid := h.id
    have hmem := h.mem
    have hsl : s < vs.length := by omega
    have htk : vs.take s ++ [vs.getD s 0] = vs.take (s + 1) := by
      rw [List.take_succ_eq_append_getElem hsl]
      congr 1
      simp [List.getD, List.getElem?_eq_getElem hsl]
    cases own with
    | true =>
      rw [if_pos rfl] at hmem
      obtain ⟨S', hst', hS'⟩ := own_store hmem s (vs.getD s 0)
      have e : drainC kc S Q = ⟨S', { Q with es := esO vs (s + 1) (tO j ph) }, [evC Q 3 3 ((s % 3 : Nat) : Int) (vs.getD s 0)]⟩ := by
        unfold drainC
        rw [hes]
        simp only [if_true, hid, hst']
      rw [e]
      have hw : OW vs S' { Q with es := esO vs (s + 1) (tO j ph) } j ph (s + 1) true := h.pop hst rfl (by rw [if_pos rfl]; exact hS')
      refine ⟨s + 1, true, hw.calm, ?_, by simp [tellsO, isTell, evC], rfl, h.wt, ?_, fun _ => ?_⟩
      · rw [← htk]; simp [storesO, isStore, evC]
      · unfold todoO; omega
      · unfold todoO; omega
    | false =>
      rw [if_neg (by decide)] at hmem
      obtain ⟨rfl, rfl⟩ := hmem
      obtain ⟨hh, hO⟩ := fresh_store 0 (vs.getD 0 0)
      have e : drainC kc kS0 Q = ⟨(storeM kc kS0 0 3 ((0 % 3 : Nat) : Int) (vs.getD 0 0)).1, Q, []⟩ := by
        unfold drainC
        rw [hes]
        simp only [if_true, hid]
        rw [hh]
        rfl
      rw [e]
      refine ⟨0, true, ?_, by simp [storesO], rfl, rfl, h.wt, ?_, fun _ => ?_⟩
      · show OW vs _ (hearC Q _).1 j ph 0 true
        rw [hear_calm h.wt]
        exact h.sys (by rw [if_pos rfl]; exact hO)
      · unfold todoO; simp
      · unfold todoO; simp
  · have hs0 : Q.es = [] := by rw [h.es]; exact esO_nil (by omega)
    have e : drainC kc S Q = ⟨S, Q, []⟩ := by
      unfold drainC
      rw [hs0]
    rw [e]
    exact ⟨s, own, h.calm, by simp [storesO], rfl, rfl, h.wt, Nat.le_refl _, fun hn => absurd hs0 hn⟩
/-- A round. -/
theorem round_own {vs : List Int} (hv : ValsOk vs) {S : Mst} {Q : Co} {j ph s : Nat} {own : Bool} (d : Bool) (h : OW vs S Q j ph s own) (hgo : Q.ru = true ∨ Q.es ≠ []) :
    ∃ j' ph' s' own', OW vs (rO d S Q).S (rO d S Q).Q j' ph' s' own' ∧ vs.take j ++ tellsO (rO d S Q).ev = vs.take j' ∧ vs.take s ++ storesO (rO d S Q).ev = vs.take s' ∧
      todoO vs.length (rO d S Q).Q.ru j' ph' s' own' ≤ todoO vs.length Q.ru j ph s own ∧ (d = true → todoO vs.length (rO d S Q).Q.ru j' ph' s' own' < todoO vs.length Q.ru j ph s own) := by
  obtain ⟨j', ph', h1, ht, hs, hm⟩ := exec_own hv h hgo
  cases d with
  | false =>
    have hc := h1.calm
    have hq : (rO false S Q).Q.ru = (execC kc S Q).Q.ru := by
      show (hearC (execC kc S Q).Q _).1.ru = _
      rw [hear_calm h1.wt]
    refine ⟨j', ph', s, own, hc, ht, ?_, ?_, fun h => by cases h⟩
    · show vs.take s ++ storesO (execC kc S Q).ev = vs.take s
      rw [hs, List.append_nil]
    · rw [hq]
      rcases hm with hm | ⟨hm, _⟩ <;> omega
  | true =>
    obtain ⟨s', own', h2, hs2, ht2, hru, hw0, hle, hlt⟩ := drain_own h1
    have hq : (rO true S Q).Q.ru = (execC kc S Q).Q.ru := by
      show (hearC (drainC kc (execC kc S Q).S (execC kc S Q).Q).Q _).1.ru = _
      rw [hear_calm hw0]
      exact hru
    refine ⟨j', ph', s', own', h2, ?_, ?_, ?_, fun _ => ?_⟩
    · show vs.take j ++ tellsO ((execC kc S Q).ev ++ _) = _
      rw [tellsO_app, ht2, List.append_nil]
      exact ht
    · show vs.take s ++ storesO ((execC kc S Q).ev ++ _) = _
      rw [storesO_app, hs, List.nil_append]
      exact hs2
    · rw [hq]
      rcases hm with hm | ⟨hm, _⟩ <;> omega
    · rw [hq]
      rcases hm with hm | ⟨hm, hne⟩
      · omega
      · have := hlt hne
        omega
theorem oIn_ops (v : Int) (i : Nat) : ∀ x ∈ oIn v i, x.op < 2 ∨ 7 < x.op := by
  intro x hx
  simp only [oIn, List.mem_cons, List.not_mem_nil, or_false] at hx
  rcases hx with rfl | rfl | rfl | rfl <;> simp
theorem oJ_ops (vs : List Int) : ∀ k, ∀ x ∈ oJ vs k, x.op < 2 ∨ 7 < x.op
  | 0 => by simp [oJ]
  | k + 1 => by
    intro x hx
    rw [oJ_succ, List.mem_append] at hx
    rcases hx with hx | hx
    · exact oJ_ops vs k x hx
    · exact oIn_ops _ k x hx
theorem oIs_ops (vs : List Int) : ∀ x ∈ oIs vs, x.op < 2 ∨ 7 < x.op := by
  intro x hx
  rw [oIs, List.mem_append] at hx
  rcases hx with hx | hx
  · exact oJ_ops vs _ x hx
  · simp only [List.mem_singleton] at hx
    subst hx; simp
theorem OW.alu {vs : List Int} (hv : ValsOk vs) {S : Mst} {Q : Co} {j ph s : Nat} {own : Bool} (h : OW vs S Q j ph s own) : ∀ u r, Q.pr[Q.pc]? = some (u, r) → decB u = true → (insOf u).op < 2 ∨ 7 < (insOf u).op := by
  intro u r hq _
  have h1 : (Q.pr.map (·.1))[Q.pc]? = some u := by rw [List.getElem?_map, hq]; rfl
  rw [h.pr, List.getElem?_map] at h1
  cases hi : (oIs vs)[Q.pc]? with
  | none => rw [hi] at h1; simp at h1
  | some i =>
    rw [hi] at h1
    simp only [Option.map_some, Option.some.injEq] at h1
    subst h1
    have hm := List.mem_of_getElem? hi
    rw [(dec_code (oIs_good hv i hm)).1]
    exact oIs_ops vs i hm
theorem inv_own {n : Nat} {S : Mst} {Q : Co} {cur : Nat → List Int} (hI : Inv kc n S cur) (hN : NN cur) (hp : PosC Q) (d : Bool) :
    ∃ cur1, Went kc (n + 2) (execC kc S Q) Q cur1 ∧ ∃ cur2, Inv kc (n + 3) (rO1 d S Q).S cur2 ∧ NN cur2 ∧ Inv kc (n + 4) (rO3 d S Q) cur2 ∧ Inv kc (n + 5) (rO d S Q).S cur2 := by
  obtain ⟨cur1, h1⟩ := went_exec hI hN hp
  refine ⟨cur1, h1, ?_⟩
  cases d with
  | false => exact ⟨cur1, h1.inv.next, h1.nn, (h1.inv.next.upM 0).1, ((h1.inv.next.upM 0).1.hearM 0).1⟩
  | true =>
    obtain ⟨cur2, h2⟩ := left_drain h1.inv h1.nn h1.pos
    exact ⟨cur2, h2.inv, h2.nn, (h2.inv.upM 0).1, ((h2.inv.upM 0).1.hearM 0).1⟩
/-- Ahead of the first round. -/
theorem OW.start {vs : List Int} : OW vs kS0 (co0 0 2 ((oIs vs).map codeI)) 0 0 0 false :=
  ⟨rfl, rfl, rfl, by
    show (prog0 ((oIs vs).map codeI)).map (·.1) = _
    unfold prog0
    rw [List.map_map]
    exact List.map_id _, rfl, by omega, by omega, fun _ => rfl, .inl rfl, ⟨0, 0, rfl, by omega, by omega⟩, rfl, by show 0 ≤ tO 0 0; exact Nat.zero_le _, by show tO 0 0 ≤ 0 + 2; unfold tO; simp, by rw [if_neg (by decide)]; exact ⟨rfl, rfl⟩⟩
/-- Behind the last one. -/
theorem OW.done {vs : List Int} {S : Mst} {Q : Co} {j ph s : Nat} {own : Bool} (h : OW vs S Q j ph s own) (hru : Q.ru = false) (hes : Q.es = []) : j = vs.length ∧ s = vs.length := by
  have hj : j = vs.length := by
    rcases h.run with e | e
    · rw [hru] at e; cases e
    · exact e
  have hp := h.end0 hj
  subst hp
  have hl := congrArg List.length h.es
  rw [hes, esO_len] at hl
  have ht : tO j 0 = j := rfl
  have h1 := h.st1
  rw [ht] at hl h1
  simp at hl
  omega
theorem tellsO_take {l : List Ev} {i : Nat} {e : Ev} (h : l[i]? = some e) : tellsO (l.take (i + 1)) = if e.kd = 8 then tellsO (l.take i) ++ [e.va] else tellsO (l.take i) := by
  rw [List.take_add_one, h, tellsO_app]
  by_cases h8 : e.kd = 8
  · simp [tellsO, isTell, h8]
  · simp [tellsO, isTell, h8]
theorem storesO_take {l : List Ev} {i : Nat} {e : Ev} (h : l[i]? = some e) : storesO (l.take (i + 1)) = if e.kd = 3 then storesO (l.take i) ++ [e.va] else storesO (l.take i) := by
  rw [List.take_add_one, h, storesO_app]
  by_cases h8 : e.kd = 3
  · simp [storesO, isStore, h8]
  · simp [storesO, isStore, h8]
end Go.Proofs.YtcjoinhngdfdmaaGreatDoor
end
section
namespace Go.Proofs.YtcjoinhngdfdmaaGreatDoor
open Go.RowKit
set_option linter.unusedVariables false
set_option maxHeartbeats 1000000

/-! ### The run in memory: the core with its system, and two lists of words -/
structure OL (W w : World) (sy : Nat) (F : List Nat) (S : Mst) (kb pb qb : Nat) (Q : Co) (q tb tc : Nat) (tA : Option Addr) (ts : List Int) (sb sc : Nat) (sA : Option Addr) (ss : List Int) : Prop where
  cs : CS W w kc sy F S kb pb qb Q
  tv : Vec 1 43 uenc w q tb tA tc ts
  sv : Vec 1 43 uenc w q sb sA sc ss
  tn : tb = q ∨ W.heap.size ≤ tb
  sn : sb = q ∨ W.heap.size ≤ sb
  tf : tb ∉ kb :: pb :: qb :: F
  sf : sb ∉ kb :: pb :: qb :: F
  ap : tb = q ∨ tb ≠ sb
  q : q < W.heap.size
section
variable {W w w' : World} {sy : Nat} {F F' : List Nat} {S S' : Mst} {kb pb qb : Nat} {Q Q' : Co} {q tb tc : Nat} {tA : Option Addr} {ts : List Int} {sb sc : Nat} {sA : Option Addr} {ss : List Int}
theorem OL.all (h : OL W w sy F S kb pb qb Q q tb tc tA ts sb sc sA ss) : Chg [] W w := Mem.chg h.cs.ms
theorem OL.oq (h : OL W w sy F S kb pb qb Q q tb tc tA ts sb sc sA ss) : Old w q := by
  have := h.all.size
  have := h.q
  show q < w.heap.size
  omega
theorem OL.out {b : Nat} (hb : b < w.heap.size) (ha : b ∉ kb :: pb :: qb :: F) (hF : ∀ k ∈ F', k ∈ F ∨ w.heap.size ≤ k) : b ∉ kb :: pb :: qb :: F' := by
  simp only [List.mem_cons, not_or] at ha ⊢
  refine ⟨ha.1, ha.2.1, ha.2.2.1, fun hm => ?_⟩
  rcases hF b hm with h1 | h1
  · exact ha.2.2.2 h1
  · omega
/-- A call. -/
theorem OL.step (h : OL W w sy F S kb pb qb Q q tb tc tA ts sb sc sA ss) (hcs : CS W w' kc sy F' S' kb pb qb Q') (hc : Chg (kb :: pb :: qb :: F) w w') (hF : ∀ k ∈ F', k ∈ F ∨ w.heap.size ≤ k) : OL W w' sy F' S' kb pb qb Q' q tb tc tA ts sb sc sA ss :=
  ⟨hcs, h.tv.keep hc h.tf, h.sv.keep hc h.sf, h.tn, h.sn, OL.out (h.tv.old h.oq).lt h.tf hF, OL.out (h.sv.old h.oq).lt h.sf hF, h.ap, h.q⟩
theorem OL.sys (h : OL W w sy F S kb pb qb Q q tb tc tA ts sb sc sA ss) (m : MTS W w kc sy F S' w') : ∃ F', OL W w' sy F' S' kb pb qb Q q tb tc tA ts sb sc sA ss := by
  obtain ⟨F', h1, h2, h3⟩ := h.cs.step m
  exact ⟨F', h.step h1 (h2.mono (by intro x hx; left; simp [hx])) h3⟩
theorem OL.keep0 (h : OL W w sy F S kb pb qb Q q tb tc tA ts sb sc sA ss) (hc : Chg [] w w') : OL W w' sy F S kb pb qb Q q tb tc tA ts sb sc sA ss :=
  ⟨h.cs.keep0 hc, h.tv.keep hc (by simp), h.sv.keep hc (by simp), h.tn, h.sn, h.tf, h.sf, h.ap, h.q⟩
/-- A word behind the first list. -/
theorem OL.appT (h : OL W w sy F S kb pb qb Q q tb tc tA ts sb sc sA ss) {B : Option Addr} {m c : Nat} {x : List Int} (hs : Sl w 1 B m (cat uenc x)) (hm : x.length = m) (hl : ts.length + m ≤ 100000) :
    ∃ (tb' tc' : Nat) (tA' : Option Addr) (w' : World), appR Tryz.prog 37 37 #[.slice tA ts.length tc, .slice B m c] w = .ok (.slice tA' (ts.length + m) tc') w' ∧ OL W w' sy F S kb pb qb Q q tb' tc' tA' (ts ++ x) sb sc sA ss ∧ Chg [tb] w w' ∧ (tb' = tb ∨ w.heap.size ≤ tb') := by
  obtain ⟨tb', tc', tA', w', h1, h2, h3, h4, h5⟩ := h.tv.app (ty := 37) eltU h.oq hs (c := c) hm (by omega) (by unfold maxLen; omega)
  refine ⟨tb', tc', tA', w', h1, ?_, h4, h3⟩
  have hsz := h.all.size
  have hold := h.cs.old
  have l1 : kb < w.heap.size := h.cs.co.oldk; have l2 : pb < w.heap.size := h.cs.co.oldp; have l3 : qb < w.heap.size := h.cs.co.oldq
  have hos := (h.sv.old h.oq).lt
  have ht := h.tf
  have hq := h.q
  by_cases hb : tb = q
  · have h0 : Chg [] w w' := by subst hb; exact h4.less h5
    refine ⟨h.cs.keep0 h0, h2, h.sv.keep h0 (by simp), ?_, h.sn, ?_, h.sf, ?_, hq⟩
    · rcases h3 with rfl | h3
      · exact h.tn
      · exact .inr (by omega)
    · rcases h3 with rfl | h3
      · exact ht
      · simp only [List.mem_cons, not_or]
        exact ⟨by omega, by omega, by omega, fun hm => by have := hold tb' hm; omega⟩
    · rcases h3 with rfl | h3
      · exact .inl hb
      · exact .inr (by omega)
  · have hap : tb ≠ sb := by rcases h.ap with e | e; exact absurd e hb; exact e
    have hnew : W.heap.size ≤ tb := by rcases h.tn with e | e; exact absurd e hb; exact e
    have ht2 := ht
    simp only [List.mem_cons, not_or] at ht2
    refine ⟨h.cs.keep1 h4 ht2.2.2.2 ⟨ht2.1, ht2.2.1, ht2.2.2.1⟩ hnew, h2, h.sv.keep h4 (by simpa using fun e => hap e.symm), ?_, h.sn, ?_, h.sf, ?_, hq⟩
    · rcases h3 with rfl | h3
      · exact h.tn
      · exact .inr (by omega)
    · rcases h3 with rfl | h3
      · exact ht
      · simp only [List.mem_cons, not_or]
        exact ⟨by omega, by omega, by omega, fun hm => by have := hold tb' hm; omega⟩
    · rcases h3 with rfl | h3
      · exact .inr hap
      · exact .inr (by omega)
theorem OL.swap (h : OL W w sy F S kb pb qb Q q tb tc tA ts sb sc sA ss) : OL W w sy F S kb pb qb Q q sb sc sA ss tb tc tA ts :=
  ⟨h.cs, h.sv, h.tv, h.sn, h.tn, h.sf, h.tf, by
    rcases h.ap with e | e
    · by_cases e2 : sb = q
      · exact .inl e2
      · exact .inr (by omega)
    · exact .inr (fun x => e x.symm), h.q⟩
/-- A word behind the second list. -/
theorem OL.appS (h : OL W w sy F S kb pb qb Q q tb tc tA ts sb sc sA ss) {B : Option Addr} {m c : Nat} {x : List Int} (hs : Sl w 1 B m (cat uenc x)) (hm : x.length = m) (hl : ss.length + m ≤ 100000) :
    ∃ (sb' sc' : Nat) (sA' : Option Addr) (w' : World), appR Tryz.prog 37 37 #[.slice sA ss.length sc, .slice B m c] w = .ok (.slice sA' (ss.length + m) sc') w' ∧ OL W w' sy F S kb pb qb Q q tb tc tA ts sb' sc' sA' (ss ++ x) ∧ Chg [sb] w w' ∧ (sb' = sb ∨ w.heap.size ≤ sb') := by
  obtain ⟨a, b, c', w', h1, h2, h3, h4⟩ := h.swap.appT hs (c := c) hm hl
  exact ⟨a, b, c', w', h1, h2.swap, h3, h4⟩
theorem OL.keep1 {b : Nat} (h : OL W w sy F S kb pb qb Q q tb tc tA ts sb sc sA ss) (hc : Chg [b] w w') (hb : b ∉ kb :: pb :: qb :: F) (hW : W.heap.size ≤ b) (ht : tb ≠ b) (hs : sb ≠ b) : OL W w' sy F S kb pb qb Q q tb tc tA ts sb sc sA ss := by
  simp only [List.mem_cons, not_or] at hb
  exact ⟨h.cs.keep1 hc hb.2.2.2 ⟨hb.1, hb.2.1, hb.2.2.1⟩ hW, h.tv.keep hc (by simpa using ht), h.sv.keep hc (by simpa using hs), h.tn, h.sn, h.tf, h.sf, h.ap, h.q⟩
/-- Where nothing of it lies: what is new. -/
theorem OL.new (h : OL W w sy F S kb pb qb Q q tb tc tA ts sb sc sA ss) {b : Nat} (hb : w.heap.size ≤ b) : b ∉ kb :: pb :: qb :: F ∧ tb ≠ b ∧ sb ≠ b ∧ b ≠ q ∧ W.heap.size ≤ b := by
  have l1 : kb < w.heap.size := h.cs.co.oldk
  have l2 : pb < w.heap.size := h.cs.co.oldp
  have l3 : qb < w.heap.size := h.cs.co.oldq
  have l4 : tb < w.heap.size := h.tv.old h.oq
  have l5 : sb < w.heap.size := h.sv.old h.oq
  have l6 := h.oq.lt
  have l7 := h.all.size
  have l8 := h.cs.old
  refine ⟨?_, by omega, by omega, by omega, by omega⟩
  simp only [List.mem_cons, not_or]
  exact ⟨by omega, by omega, by omega, fun hm => by have := l8 b hm; omega⟩
/-- 'append([]Event{}, l...)'. -/
theorem OL.join1 (h : OL W w sy F S kb pb qb Q q tb tc tA ts sb sc sA ss) {B : Option Addr} {m c : Nat} {x : List Ev} (hs : Sl w 5 B m (cat Ev.enc x)) (hm : x.length = m) (hl : m ≤ 1000) :
    ∃ (b3 c3 : Nat) (A3 : Option Addr) (w5 : World), appR Tryz.prog 41 41 #[.slice (some ⟨w.heap.size, 0, none⟩) 0 0, .slice B m c] (w.alloc (.cells #[] 45)) = .ok (.slice A3 m c3) w5 ∧ Vec 5 45 Ev.enc w5 q b3 A3 c3 x ∧ w.heap.size ≤ b3 ∧ Chg [] w w5 := by
  have ce := (Chg.refl [] w).alloc (.cells #[] 45)
  have re : (w.alloc (.cells #[] 45)).heap[w.heap.size]? = some (.cells #[] 45 (0, 0)) := by rw [heap_alloc, Array.getElem?_eq_none (Nat.le_refl _)]; simp
  have hq := h.oq.lt
  have hv0 : Vec 5 45 Ev.enc (w.alloc (.cells #[] 45)) q w.heap.size (some ⟨w.heap.size, 0, none⟩) 0 [] := .inr ⟨by omega, rfl, by simp, [], by rw [re]; simp [sq, cat_nil], by simp⟩
  obtain ⟨b3, c3, A3, w5, happ, hv3, hb3, cc3, _⟩ := hv0.app (ty := 41) eltEv (h.oq.chg ce) (hs.chg ce (by simp)) (c := c) hm (by simp; omega) (by simp [maxLen]; omega)
  rw [List.nil_append] at hv3
  simp only [List.length_nil, Nat.zero_add] at happ
  refine ⟨b3, c3, A3, w5, happ, hv3, ?_, ce.trans' cc3 (by simp)⟩
  have := ce.size
  rcases hb3 with e | e <;> omega
/-- 'append(.., y...)' behind that. -/
theorem OL.join2 (h : OL W w sy F S kb pb qb Q q tb tc tA ts sb sc sA ss) {b3 c3 : Nat} {A3 : Option Addr} {x : List Ev} (hv : Vec 5 45 Ev.enc w q b3 A3 c3 x) (hb : b3 ∉ kb :: pb :: qb :: F) (ht : tb ≠ b3) (hs3 : sb ≠ b3) (hW : W.heap.size ≤ b3)
    {B : Option Addr} {m c : Nat} {y : List Ev} (hs : Sl w 5 B m (cat Ev.enc y)) (hm : y.length = m) (hl : x.length + m ≤ 1000) :
    ∃ (c5 : Nat) (A5 : Option Addr) (w7 : World), appR Tryz.prog 41 41 #[.slice A3 x.length c3, .slice B m c] w = .ok (.slice A5 (x.length + m) c5) w7 ∧ Sl w7 5 A5 (x.length + m) (cat Ev.enc (x ++ y)) ∧ OL W w7 sy F S kb pb qb Q q tb tc tA ts sb sc sA ss ∧ ∀ a, A5 = some a → a.block ≠ tb ∧ a.block ≠ sb ∧ a.block < w7.heap.size := by
  obtain ⟨b5, c5, A5, w7, happ, hv5, hb5, cc5, hq5⟩ := hv.app (ty := 41) eltEv h.oq hs (c := c) hm (by omega) (by unfold maxLen; omega)
  have hsl := hv5.sl Ev.len
  rw [List.length_append, hm] at hsl
  have h7 := h.keep1 cc5 hb hW ht hs3
  refine ⟨c5, A5, w7, happ, hsl, h7, fun a ha => ?_⟩
  have l4 : tb < w.heap.size := h.tv.old h.oq
  have l5 : sb < w.heap.size := h.sv.old h.oq
  rcases hv5 with ⟨_, h0, _⟩ | ⟨_, h0, _, r, hr, _⟩
  · rw [h0] at ha; cases ha
  · rw [h0] at ha
    cases ha
    refine ⟨?_, ?_, lt_heap hr⟩
    · show b5 ≠ tb
      rcases hb5 with rfl | e
      · exact fun e => ht e.symm
      · omega
    · show b5 ≠ sb
      rcases hb5 with rfl | e
      · exact fun e => hs3 e.symm
      · omega
end
theorem EvV.sl2 {w : World} {B kb : Nat} {F : List Nat} {v : Value} {x : List Ev} (h : EvV w B kb F v x) : ∃ A c, v = .slice A x.length c ∧ Sl w 5 A x.length (cat Ev.enc x) ∧ ∀ a, A = some a → B ≤ a.block ∧ a.block < w.heap.size := by
  obtain ⟨A, cap, be, rfl, h2, h3, _⟩ := h
  refine ⟨A, cap, rfl, h2.sl Ev.len, fun a ha => ?_⟩
  rcases h2 with ⟨_, h0, _⟩ | ⟨hne, h0, _, r, hr, _⟩
  · rw [h0] at ha; cases ha
  · rw [h0] at ha
    cases ha
    refine ⟨?_, lt_heap hr⟩
    show B ≤ be
    rcases h3 with e | e
    · exact absurd e hne
    · exact e
end Go.Proofs.YtcjoinhngdfdmaaGreatDoor
end
