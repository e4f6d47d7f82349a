/- Maps by whole blocks: looked up, stored into, deleted from. No condition. -/
import Derived.Test.YtnocekhgabgffaaSeq
import Derived.MapKept
namespace Go.Proofs.Ytnocekhgabgffaa
open Go.RowKit
set_option linter.unusedVariables false
set_option maxHeartbeats 1000000

/-! ### Pairs of keys and values: the first one of a key counts -/
section
variable {κ ν μ : Type} [DecidableEq κ]
def lookA (k : κ) : List (κ × ν) → Option ν
  | [] => none
  | (a, v) :: l => if a = k then some v else lookA k l
def putA (k : κ) (v : ν) : List (κ × ν) → List (κ × ν)
  | [] => [(k, v)]
  | (a, u) :: l => if a = k then (k, v) :: l else (a, u) :: putA k v l
def dropA (k : κ) : List (κ × ν) → List (κ × ν)
  | [] => []
  | (a, u) :: l => if a = k then l else (a, u) :: dropA k l
def onA (f : ν → μ) (l : List (κ × ν)) : List (κ × μ) := l.map fun p => (p.1, f p.2)
theorem lookA_on (f : ν → μ) (k : κ) : ∀ l : List (κ × ν), lookA k (onA f l) = (lookA k l).map f
  | [] => rfl
  | (a, v) :: l => by
    show (if a = k then some (f v) else lookA k (onA f l)) = Option.map f (if a = k then some v else lookA k l)
    split
    · rfl
    · exact lookA_on f k l
theorem putA_on (f : ν → μ) (k : κ) (v : ν) : ∀ l : List (κ × ν), putA k (f v) (onA f l) = onA f (putA k v l)
  | [] => rfl
  | (a, u) :: l => by
    show (if a = k then (k, f v) :: onA f l else (a, f u) :: putA k (f v) (onA f l)) = onA f (if a = k then (k, v) :: l else (a, u) :: putA k v l)
    split
    · rfl
    · rw [putA_on f k v l]; rfl
theorem dropA_on (f : ν → μ) (k : κ) : ∀ l : List (κ × ν), dropA k (onA f l) = onA f (dropA k l)
  | [] => rfl
  | (a, u) :: l => by
    show (if a = k then onA f l else (a, f u) :: dropA k (onA f l)) = onA f (if a = k then l else (a, u) :: dropA k l)
    split
    · rfl
    · rw [dropA_on f k l]; rfl
theorem mem_putA {k : κ} {v : ν} {p : κ × ν} : ∀ {l : List (κ × ν)}, p ∈ putA k v l → p = (k, v) ∨ p ∈ l
  | [], h => by simp [putA] at h; exact .inl h
  | (a, u) :: l, h => by
    unfold putA at h
    split at h
    · rcases List.mem_cons.1 h with h | h
      · exact .inl h
      · exact .inr (List.mem_cons_of_mem _ h)
    · rcases List.mem_cons.1 h with h | h
      · exact .inr (by rw [h]; exact List.mem_cons_self)
      · exact (mem_putA h).imp id (List.mem_cons_of_mem _)
theorem mem_dropA {k : κ} {p : κ × ν} : ∀ {l : List (κ × ν)}, p ∈ dropA k l → p ∈ l
  | [], h => h
  | (a, u) :: l, h => by
    unfold dropA at h
    split at h
    · exact List.mem_cons_of_mem _ h
    · rcases List.mem_cons.1 h with h | h
      · rw [h]; exact List.mem_cons_self
      · exact List.mem_cons_of_mem _ (mem_dropA h)
theorem lookA_mem {k : κ} {v : ν} : ∀ {l : List (κ × ν)}, lookA k l = some v → (k, v) ∈ l
  | [], h => by cases h
  | (a, u) :: l, h => by
    unfold lookA at h
    split at h
    · rename_i e; subst e; cases h; exact List.mem_cons_self
    · exact List.mem_cons_of_mem _ (lookA_mem h)
theorem lookA_put (k j : κ) (v : ν) : ∀ l : List (κ × ν), lookA j (putA k v l) = if j = k then some v else lookA j l
  | [] => by by_cases h : k = j <;> simp [lookA, putA, h, eq_comm]
  | (a, u) :: l => by
    unfold putA
    by_cases h : a = k
    · subst h
      rw [if_pos rfl]
      by_cases hj : a = j
      · subst hj; simp [lookA]
      · rw [if_neg (Ne.symm hj)]; simp [lookA, hj]
    · rw [if_neg h]
      unfold lookA
      by_cases hj : a = j
      · subst hj; rw [if_pos rfl, if_neg h, if_pos rfl]
      · rw [if_neg hj, if_neg hj]; exact lookA_put k j v l
def findP (k : κ) : List (κ × ν) → Nat → Option (Nat × ν)
  | [], _ => none
  | (a, v) :: l, i => if a = k then some (i, v) else findP k l (i + 1)
theorem findP_none {k : κ} : ∀ {ps : List (κ × ν)} {i : Nat}, findP k ps i = none → lookA k ps = none ∧ (∀ v, putA k v ps = ps ++ [(k, v)]) ∧ dropA k ps = ps
  | [], _, _ => ⟨rfl, fun _ => rfl, rfl⟩
  | (a, v) :: l, i, h => by
    unfold findP at h
    split at h
    · cases h
    · rename_i hn
      obtain ⟨h1, h2, h3⟩ := findP_none h
      exact ⟨by unfold lookA; rw [if_neg hn, h1], fun u => by unfold putA; rw [if_neg hn, h2]; rfl, by unfold dropA; rw [if_neg hn, h3]⟩
theorem findP_some {k : κ} {j : Nat} {u : ν} : ∀ {ps : List (κ × ν)} {i : Nat}, findP k ps i = some (j, u) → ∃ n, j = i + n ∧ ps[n]? = some (k, u) ∧ lookA k ps = some u ∧ (∀ v, putA k v ps = ps.set n (k, v)) ∧ dropA k ps = ps.eraseIdx n
  | [], _, h => by cases h
  | (a, v) :: l, i, h => by
    unfold findP at h
    split at h
    · rename_i e
      subst e
      cases h
      exact ⟨0, rfl, rfl, by simp [lookA], fun u => by simp [putA], by simp [dropA]⟩
    · rename_i hn
      obtain ⟨n, h1, h2, h3, h4, h5⟩ := findP_some h
      exact ⟨n + 1, by omega, h2, by unfold lookA; rw [if_neg hn, h3], fun u => by unfold putA; rw [if_neg hn, h4]; rfl, by unfold dropA; rw [if_neg hn, h5]; rfl⟩
end

/-! ### A map in memory -/
def setB (w : World) (b : Nat) (o : Obj) : World := { w with heap := w.heap.setIfInBounds b o }
theorem map_eraseIdx5 {α β : Type} (f : α → β) : ∀ (l : List α) (n : Nat), (l.eraseIdx n).map f = (l.map f).eraseIdx n
  | [], _ => rfl
  | _ :: _, 0 => rfl
  | a :: l, n + 1 => by simp [map_eraseIdx5 f l n]
theorem heap_setB (w : World) (b : Nat) (o : Obj) (k : Nat) : (setB w b o).heap[k]? = if k = b then (w.heap[b]?).map (fun _ => o) else w.heap[k]? := by
  show (w.heap.setIfInBounds b o)[k]? = _
  rw [Array.getElem?_setIfInBounds]
  by_cases h : k = b
  · subst h
    rw [if_pos rfl, if_pos rfl]
    by_cases h2 : k < w.heap.size
    · rw [if_pos h2, Array.getElem?_eq_getElem h2]; rfl
    · rw [if_neg h2, Array.getElem?_eq_none (by omega)]; rfl
  · rw [if_neg (Ne.symm h), if_neg h]
theorem size_setB (w : World) (b : Nat) (o : Obj) : (setB w b o).heap.size = w.heap.size := by simp [setB]
theorem Chg.setB {l : List Nat} {a w : World} (h : Chg l a w) (b : Nat) (o : Obj) (hb : b ∈ l ∨ a.heap.size ≤ b) : Chg l a (setB w b o) :=
  ⟨h.os, h.tape, h.output, by rw [size_setB]; exact h.size, fun k hk hn => by
    rw [heap_setB, if_neg]
    · exact h.block k hk hn
    · rintro rfl
      rcases hb with hb | hb
      · exact hn hb
      · omega⟩
def IsMapO {κ : Type} (kenc : κ → Value) (o : Obj) (ps : List (κ × Value)) : Prop := ∃ es clock, o = .map es clock ∧ es.toList.map (fun e => (e.key, e.val)) = ps.map (fun p => (kenc p.1, p.2))
def MapAt {κ : Type} (kenc : κ → Value) (w : World) (b : Nat) (ps : List (κ × Value)) : Prop := ∃ o, w.heap[b]? = some o ∧ IsMapO kenc o ps
theorem MapAt.keep {κ : Type} {kenc : κ → Value} {w w' : World} {b : Nat} {ps : List (κ × Value)} {l : List Nat} (h : MapAt kenc w b ps) (hc : Chg l w w') (hb : b ∉ l) : MapAt kenc w' b ps := by
  obtain ⟨o, h1, h2⟩ := h
  exact ⟨o, hc.keep h1 hb, h2⟩
theorem isMap_empty {κ : Type} (kenc : κ → Value) : IsMapO kenc (.map #[] 0) ([] : List (κ × Value)) := ⟨#[], 0, rfl, rfl⟩
/-- Keys of a map, as the program has them. -/
structure KeyE {κ : Type} [DecidableEq κ] (P : Program) (kt : TypeId) (kenc : κ → Value) : Prop where
  check : ∀ (e : Bool) (k : κ) (w : World), (Instr.checkKey e 10000 kt (kenc k)).run P w = .ok () w
  find : ∀ (k : κ) (ps : List (κ × Value)) (es : List MapEntry) (w : World), es.map (fun e => (e.key, e.val)) = ps.map (fun p => (kenc p.1, p.2)) → (Instr.findKey kt (kenc k) es).run P w = .ok (findP k ps 0) w
  same : ∀ k : κ, Instr.sameBits 10000 (kenc k) (kenc k) = true
def lookS (t : TypeId) (m k : Value) (c : Bool) : Sem Value := Instr.lookup t m k c
def lookR (P : Program) (t : TypeId) (m k : Value) (c : Bool) (w : World) : Result Value := (Instr.lookup t m k c).run P w
theorem lookup_lookS (t : TypeId) (m k : Value) (c : Bool) : Instr.lookup t m k c = lookS t m k c := rfl
theorem run_lookS (P : Program) (t : TypeId) (m k : Value) (c : Bool) (w : World) : (lookS t m k c).run P w = lookR P t m k c w := rfl
def mputS (t : TypeId) (m k v : Value) : Sem Unit := Instr.mapUpdate t m k v
def mputR (P : Program) (t : TypeId) (m k v : Value) (w : World) : Result Unit := (Instr.mapUpdate t m k v).run P w
theorem mput_mputS (t : TypeId) (m k v : Value) : Instr.mapUpdate t m k v = mputS t m k v := rfl
theorem run_mputS (P : Program) (t : TypeId) (m k v : Value) (w : World) : (mputS t m k v).run P w = mputR P t m k v w := rfl
def mdelS (ts : Array TypeId) (ty : TypeId) (args : Array Value) : Sem Value := Builtin.delete_ ts ty args
def mdelR (P : Program) (ts : Array TypeId) (ty : TypeId) (args : Array Value) (w : World) : Result Value := (Builtin.delete_ ts ty args).run P w
theorem del_mdelS (ts : Array TypeId) (ty : TypeId) (args : Array Value) : Builtin.delete_ ts ty args = mdelS ts ty args := rfl
theorem run_mdelS (P : Program) (ts : Array TypeId) (ty : TypeId) (args : Array Value) (w : World) : (mdelS ts ty args).run P w = mdelR P ts ty args w := rfl
section
variable {κ : Type} [DecidableEq κ] {kenc : κ → Value} {P : Program} {mt kt et : TypeId} {b : Nat} {ps : List (κ × Value)} {o : Obj}
theorem lookR_at (K : KeyE P kt kenc) (hm : P.underlying mt = some (.map kt et)) {z : Value} (hz : ∀ w, (zeroValue et).run P w = .ok z w) (ho : IsMapO kenc o ps) (k : κ) (w : World) (hb : w.heap[b]? = some o) :
    lookR P mt (.map (some b)) (kenc k) false w = .ok ((lookA k ps).getD z) w := by
  obtain ⟨es, clock, rfl, he⟩ := ho
  have hf := K.find k ps es.toList
  unfold lookR
  simp only [Instr.lookup, Sem.run_bind, run_underlying hm, Result.andThen, getObj, Sem.run, hb, K.check, Sem.run_pure, hf _ he]
  cases h : findP k ps 0 with
  | none => rw [(findP_none h).1]; simp [hz]
  | some p =>
    obtain ⟨j, u⟩ := p
    obtain ⟨n, _, _, h3, _⟩ := findP_some h
    rw [h3]; simp
theorem lookR_ok (K : KeyE P kt kenc) (hm : P.underlying mt = some (.map kt et)) {z : Value} (hz : ∀ w, (zeroValue et).run P w = .ok z w) (ho : IsMapO kenc o ps) (k : κ) (w : World) (hb : w.heap[b]? = some o) :
    lookR P mt (.map (some b)) (kenc k) true w = .ok (.tuple #[(lookA k ps).getD z, .bool (lookA k ps).isSome]) w := by
  obtain ⟨es, clock, rfl, he⟩ := ho
  have hf := K.find k ps es.toList
  unfold lookR
  simp only [Instr.lookup, Sem.run_bind, run_underlying hm, Result.andThen, getObj, Sem.run, hb, K.check, Sem.run_pure, hf _ he]
  cases h : findP k ps 0 with
  | none => rw [(findP_none h).1]; simp [hz]
  | some p =>
    obtain ⟨j, u⟩ := p
    obtain ⟨n, _, _, h3, _⟩ := findP_some h
    rw [h3]; simp
theorem mputR_at (K : KeyE P kt kenc) (hm : P.underlying mt = some (.map kt et)) (ho : IsMapO kenc o ps) (k : κ) (v : Value) :
    ∃ o', IsMapO kenc o' (putA k v ps) ∧ ∀ w, w.heap[b]? = some o → mputR P mt (.map (some b)) (kenc k) v w = .ok () (setB w b o') := by
  obtain ⟨es, clock, rfl, he⟩ := ho
  have hf := K.find k ps es.toList
  cases h : findP k ps 0 with
  | none =>
    refine ⟨.map (es.push { key := kenc k, val := v, born := clock }) (clock + 1), ⟨_, _, rfl, ?_⟩, fun w hb => ?_⟩
    · rw [(findP_none h).2.1, Array.toList_push, List.map_append, List.map_append, he]; rfl
    · unfold mputR
      simp only [Instr.mapUpdate, Sem.run_bind, run_underlying hm, Result.andThen, getObj, Sem.run, hb, K.check, hf _ he, h, setObj, setB]
  | some p =>
    obtain ⟨j, u⟩ := p
    obtain ⟨n, hj, h2, h3, h4, h5⟩ := findP_some h
    obtain rfl : n = j := by omega
    have hl := congrArg List.length he
    simp only [List.length_map] at hl
    obtain ⟨hn, e2⟩ := List.getElem?_eq_some_iff.1 h2
    have hn2 : n < es.size := by rw [Array.length_toList] at hl; omega
    obtain ⟨e0, hkey⟩ : ∃ e0, es[n]? = some e0 := ⟨_, Array.getElem?_eq_getElem hn2⟩
    have hk : e0.key = kenc k := by
      have := congrArg (fun l => l[n]?) he
      simp only [List.getElem?_map, h2, Array.getElem?_toList, hkey, Option.map_some, Option.some.injEq, Prod.mk.injEq] at this
      exact this.1
    refine ⟨.map (es.modify n fun e => { e with key := kenc k, val := v }) clock, ⟨_, _, rfl, ?_⟩, fun w hb => ?_⟩
    · rw [h4]
      apply List.ext_getElem?
      intro i
      have hi := congrArg (fun l => l[i]?) he
      simp only [List.getElem?_map, Array.getElem?_toList] at hi
      simp only [List.getElem?_map, Array.getElem?_toList, Array.getElem?_modify, List.getElem?_set]
      by_cases hni : n = i
      · subst hni
        simp [hkey, hn]
      · simp only [hni, if_false]; exact hi
    · unfold mputR
      have hs := K.same k
      simp only [Instr.mapUpdate, Sem.run_bind, run_underlying hm, Result.andThen, getObj, Sem.run, hb, K.check, Sem.run_pure, hf _ he, h, setObj, setB, Instr.keyThatStays, hkey, Option.map_some, Option.getD_some, hk, hs, if_true]
theorem mdelR_at (K : KeyE P kt kenc) (hm : P.underlying mt = some (.map kt et)) (ho : IsMapO kenc o ps) (k : κ) (ty u : TypeId) :
    ∃ o', IsMapO kenc o' (dropA k ps) ∧ ∀ w, w.heap[b]? = some o → mdelR P #[mt, u] ty #[.map (some b), kenc k] w = .ok (.tuple #[]) (setB w b o') := by
  obtain ⟨es, clock, rfl, he⟩ := ho
  have hf := K.find k ps es.toList
  cases h : findP k ps 0 with
  | none =>
    refine ⟨.map es clock, ⟨_, _, rfl, ?_⟩, fun w hb => ?_⟩
    · rw [(findP_none h).2.2, he]
    · unfold mdelR
      simp [Builtin.delete_, Sem.run_bind, run_underlying hm, Result.andThen, getObj, Sem.run, hb, K.check, hf _ he, h, setObj, setB]
  | some p =>
    obtain ⟨j, x⟩ := p
    obtain ⟨n, hj, h2, h3, h4, h5⟩ := findP_some h
    obtain rfl : n = j := by omega
    have hl := congrArg List.length he
    simp only [List.length_map] at hl
    have hn := (List.getElem?_eq_some_iff.1 h2).1
    refine ⟨.map (es.eraseIdxIfInBounds n) clock, ⟨_, _, rfl, ?_⟩, fun w hb => ?_⟩
    · have hn' : n < es.size := by simp at hl; omega
      rw [h5, map_eraseIdx5, ← he, ← map_eraseIdx5]
      congr 1
      unfold Array.eraseIdxIfInBounds
      rw [dif_pos hn', Array.toList_eraseIdx]
    · unfold mdelR
      simp [Builtin.delete_, Sem.run_bind, run_underlying hm, Result.andThen, getObj, Sem.run, hb, K.check, hf _ he, h, setObj, setB]
omit [DecidableEq κ] in
theorem isMap_len (ho : IsMapO kenc o ps) : ∃ es clock, o = .map es clock ∧ es.size = ps.length := by
  obtain ⟨es, clock, rfl, he⟩ := ho
  have hl := congrArg List.length he
  simp only [List.length_map] at hl
  exact ⟨es, clock, rfl, by simpa using hl⟩
end
def lenMS (t ty : TypeId) (x : Value) : Sem Value := Builtin.len_ #[t] ty #[x]
def lenMR (P : Program) (t ty : TypeId) (x : Value) (w : World) : Result Value := (Builtin.len_ #[t] ty #[x]).run P w
theorem len_lenMS (t ty : TypeId) (x : Value) : Builtin.len_ #[t] ty #[x] = lenMS t ty x := rfl
theorem run_lenMS (P : Program) (t ty : TypeId) (x : Value) (w : World) : (lenMS t ty x).run P w = lenMR P t ty x w := rfl
theorem lenMR_at {κ : Type} {kenc : κ → Value} {P : Program} {mt kt et : TypeId} (hm : P.underlying mt = some (.map kt et)) {o : Obj} {ps : List (κ × Value)} (ho : IsMapO kenc o ps) {b : Nat} (ty : TypeId) (w : World) (hb : w.heap[b]? = some o) : lenMR P mt ty (.map (some b)) w = .ok (.int .i64 ps.length) w := by
  obtain ⟨es, clock, rfl, he⟩ := isMap_len ho
  rw [← he]
  unfold lenMR
  simp [Builtin.len_, run_underlying hm, getObj, Sem.run, hb, Sem.run_bind, Result.andThen, goInt]
/-- Whole numbers as keys. -/
theorem int_keyE {P : Program} {t : TypeId} (h : P.underlying t = some (.int .i64)) : KeyE P t (fun k : Int => Value.int .i64 k) where
  check e k w := MapKept.run_checkKey (d := .int .i64) (k := .int .i64 k) h (by simp [MapKept.IsKey]) e 9999
  find k ps es w he := by
    refine MapKept.run_findKey h ?_
    generalize 0 = i
    induction ps generalizing es i with
    | nil =>
      have : es = [] := by simpa using he
      subst this; rfl
    | cons p ps ih =>
      cases es with
      | nil => cases he
      | cons e es =>
        simp only [List.map_cons, List.cons.injEq, Prod.mk.injEq] at he
        obtain ⟨⟨h1, h2⟩, h3⟩ := he
        obtain ⟨a, v⟩ := p
        simp only at h1 h2
        unfold Instr.findNow findP
        rw [h1, h2]
        by_cases hk : a = k
        · subst hk; simp [Instr.sameNow]
        · have : (k == a) = false := by simpa using Ne.symm hk
          simp only [Instr.sameNow, if_true, this, if_neg hk]
          exact ih es h3 (i + 1)
  same k := by simp [Instr.sameBits]
end Go.Proofs.Ytnocekhgabgffaa
