/- Texts of the walk, one behind the other: Maq Bum Buw Blf Bki. No condition. -/
import Derived.Test.YtnocekhgabgffaaOCaa
import Derived.MapKept
section
namespace Go.Proofs.Ytnocekhgabgffaa
open Go.RowKit
set_option linter.unusedVariables false
set_option maxHeartbeats 1000000

/-! ### Pairs of keys and values: the first one of a key counts -/
section
variable {κ ν μ : Type} [DecidableEq κ]
def lookA (k : κ) : List (κ × ν) → Option ν
  | [] => none
  | (a, v) :: l => if a = k then some v else lookA k l
def putA (k : κ) (v : ν) : List (κ × ν) → List (κ × ν)
  | [] => [(k, v)]
  | (a, u) :: l => if a = k then (k, v) :: l else (a, u) :: putA k v l
def dropA (k : κ) : List (κ × ν) → List (κ × ν)
  | [] => []
  | (a, u) :: l => if a = k then l else (a, u) :: dropA k l
def onA (f : ν → μ) (l : List (κ × ν)) : List (κ × μ) := l.map fun p => (p.1, f p.2)
theorem lookA_on (f : ν → μ) (k : κ) : ∀ l : List (κ × ν), lookA k (onA f l) = (lookA k l).map f
  | [] => rfl
  | (a, v) :: l => by
    show (if a = k then some (f v) else lookA k (onA f l)) = Option.map f (if a = k then some v else lookA k l)
    split
    · rfl
    · exact lookA_on f k l
theorem putA_on (f : ν → μ) (k : κ) (v : ν) : ∀ l : List (κ × ν), putA k (f v) (onA f l) = onA f (putA k v l)
  | [] => rfl
  | (a, u) :: l => by
    show (if a = k then (k, f v) :: onA f l else (a, f u) :: putA k (f v) (onA f l)) = onA f (if a = k then (k, v) :: l else (a, u) :: putA k v l)
    split
    · rfl
    · rw [putA_on f k v l]; rfl
theorem dropA_on (f : ν → μ) (k : κ) : ∀ l : List (κ × ν), dropA k (onA f l) = onA f (dropA k l)
  | [] => rfl
  | (a, u) :: l => by
    show (if a = k then onA f l else (a, f u) :: dropA k (onA f l)) = onA f (if a = k then l else (a, u) :: dropA k l)
    split
    · rfl
    · rw [dropA_on f k l]; rfl
theorem mem_putA {k : κ} {v : ν} {p : κ × ν} : ∀ {l : List (κ × ν)}, p ∈ putA k v l → p = (k, v) ∨ p ∈ l
  | [], h => by simp [putA] at h; exact .inl h
  | (a, u) :: l, h => by
    unfold putA at h
    split at h
    · rcases List.mem_cons.1 h with h | h
      · exact .inl h
      · exact .inr (List.mem_cons_of_mem _ h)
    · rcases List.mem_cons.1 h with h | h
      · exact .inr (by rw [h]; exact List.mem_cons_self)
      · exact (mem_putA h).imp id (List.mem_cons_of_mem _)
theorem mem_dropA {k : κ} {p : κ × ν} : ∀ {l : List (κ × ν)}, p ∈ dropA k l → p ∈ l
  | [], h => h
  | (a, u) :: l, h => by
    unfold dropA at h
    split at h
    · exact List.mem_cons_of_mem _ h
    · rcases List.mem_cons.1 h with h | h
      · rw [h]; exact List.mem_cons_self
      · exact List.mem_cons_of_mem _ (mem_dropA h)
theorem lookA_mem {k : κ} {v : ν} : ∀ {l : List (κ × ν)}, lookA k l = some v → (k, v) ∈ l
  | [], h => by cases h
  | (a, u) :: l, h => by
    unfold lookA at h
    split at h
    · rename_i e; subst e; cases h; exact List.mem_cons_self
    · exact List.mem_cons_of_mem _ (lookA_mem h)
theorem lookA_put (k j : κ) (v : ν) : ∀ l : List (κ × ν), lookA j (putA k v l) = if j = k then some v else lookA j l
  | [] => by by_cases h : k = j <;> simp [lookA, putA, h, eq_comm]
  | (a, u) :: l => by
    unfold putA
    by_cases h : a = k
    · subst h
      rw [if_pos rfl]
      by_cases hj : a = j
      · subst hj; simp [lookA]
      · rw [if_neg (Ne.symm hj)]; simp [lookA, hj]
    · rw [if_neg h]
      unfold lookA
      by_cases hj : a = j
      · subst hj; rw [if_pos rfl, if_neg h, if_pos rfl]
      · rw [if_neg hj, if_neg hj]; exact lookA_put k j v l
def findP (k : κ) : List (κ × ν) → Nat → Option (Nat × ν)
  | [], _ => none
  | (a, v) :: l, i => if a = k then some (i, v) else findP k l (i + 1)
theorem findP_none {k : κ} : ∀ {ps : List (κ × ν)} {i : Nat}, findP k ps i = none → lookA k ps = none ∧ (∀ v, putA k v ps = ps ++ [(k, v)]) ∧ dropA k ps = ps
  | [], _, _ => ⟨rfl, fun _ => rfl, rfl⟩
  | (a, v) :: l, i, h => by
    unfold findP at h
    split at h
    · cases h
    · rename_i hn
      obtain ⟨h1, h2, h3⟩ := findP_none h
      exact ⟨by unfold lookA; rw [if_neg hn, h1], fun u => by unfold putA; rw [if_neg hn, h2]; rfl, by unfold dropA; rw [if_neg hn, h3]⟩
theorem findP_some {k : κ} {j : Nat} {u : ν} : ∀ {ps : List (κ × ν)} {i : Nat}, findP k ps i = some (j, u) → ∃ n, j = i + n ∧ ps[n]? = some (k, u) ∧ lookA k ps = some u ∧ (∀ v, putA k v ps = ps.set n (k, v)) ∧ dropA k ps = ps.eraseIdx n
  | [], _, h => by cases h
  | (a, v) :: l, i, h => by
    unfold findP at h
    split at h
    · rename_i e
      subst e
      cases h
      exact ⟨0, rfl, rfl, by simp [lookA], fun u => by simp [putA], by simp [dropA]⟩
    · rename_i hn
      obtain ⟨n, h1, h2, h3, h4, h5⟩ := findP_some h
      exact ⟨n + 1, by omega, h2, by unfold lookA; rw [if_neg hn, h3], fun u => by unfold putA; rw [if_neg hn, h4]; rfl, by unfold dropA; rw [if_neg hn, h5]; rfl⟩
end

/-! ### A map in memory -/
def setB (w : World) (b : Nat) (o : Obj) : World := { w with heap := w.heap.setIfInBounds b o }
theorem map_eraseIdx5 {α β : Type} (f : α → β) : ∀ (l : List α) (n : Nat), (l.eraseIdx n).map f = (l.map f).eraseIdx n
  | [], _ => rfl
  | _ :: _, 0 => rfl
  | a :: l, n + 1 => by simp [map_eraseIdx5 f l n]
theorem heap_setB (w : World) (b : Nat) (o : Obj) (k : Nat) : (setB w b o).heap[k]? = if k = b then (w.heap[b]?).map (fun _ => o) else w.heap[k]? := by
  show (w.heap.setIfInBounds b o)[k]? = _
  rw [Array.getElem?_setIfInBounds]
  by_cases h : k = b
  · subst h
    rw [if_pos rfl, if_pos rfl]
    by_cases h2 : k < w.heap.size
    · rw [if_pos h2, Array.getElem?_eq_getElem h2]; rfl
    · rw [if_neg h2, Array.getElem?_eq_none (by omega)]; rfl
  · rw [if_neg (Ne.symm h), if_neg h]
theorem size_setB (w : World) (b : Nat) (o : Obj) : (setB w b o).heap.size = w.heap.size := by simp [setB]
theorem Chg.setB {l : List Nat} {a w : World} (h : Chg l a w) (b : Nat) (o : Obj) (hb : b ∈ l ∨ a.heap.size ≤ b) : Chg l a (setB w b o) :=
  ⟨h.os, h.tape, h.output, by rw [size_setB]; exact h.size, fun k hk hn => by
    rw [heap_setB, if_neg]
    · exact h.block k hk hn
    · rintro rfl
      rcases hb with hb | hb
      · exact hn hb
      · omega⟩
def IsMapO {κ : Type} (kenc : κ → Value) (o : Obj) (ps : List (κ × Value)) : Prop := ∃ es clock, o = .map es clock ∧ es.toList.map (fun e => (e.key, e.val)) = ps.map (fun p => (kenc p.1, p.2))
def MapAt {κ : Type} (kenc : κ → Value) (w : World) (b : Nat) (ps : List (κ × Value)) : Prop := ∃ o, w.heap[b]? = some o ∧ IsMapO kenc o ps
theorem MapAt.keep {κ : Type} {kenc : κ → Value} {w w' : World} {b : Nat} {ps : List (κ × Value)} {l : List Nat} (h : MapAt kenc w b ps) (hc : Chg l w w') (hb : b ∉ l) : MapAt kenc w' b ps := by
  obtain ⟨o, h1, h2⟩ := h
  exact ⟨o, hc.keep h1 hb, h2⟩
theorem isMap_empty {κ : Type} (kenc : κ → Value) : IsMapO kenc (.map #[] 0) ([] : List (κ × Value)) := ⟨#[], 0, rfl, rfl⟩
/-- Keys of a map, as the program has them. -/
structure KeyE {κ : Type} [DecidableEq κ] (P : Program) (kt : TypeId) (kenc : κ → Value) : Prop where
  check : ∀ (e : Bool) (k : κ) (w : World), (Instr.checkKey e 10000 kt (kenc k)).run P w = .ok () w
  find : ∀ (k : κ) (ps : List (κ × Value)) (es : List MapEntry) (w : World), es.map (fun e => (e.key, e.val)) = ps.map (fun p => (kenc p.1, p.2)) → (Instr.findKey kt (kenc k) es).run P w = .ok (findP k ps 0) w
  same : ∀ k : κ, Instr.sameBits 10000 (kenc k) (kenc k) = true
def lookS (t : TypeId) (m k : Value) (c : Bool) : Sem Value := Instr.lookup t m k c
def lookR (P : Program) (t : TypeId) (m k : Value) (c : Bool) (w : World) : Result Value := (Instr.lookup t m k c).run P w
theorem lookup_lookS (t : TypeId) (m k : Value) (c : Bool) : Instr.lookup t m k c = lookS t m k c := rfl
theorem run_lookS (P : Program) (t : TypeId) (m k : Value) (c : Bool) (w : World) : (lookS t m k c).run P w = lookR P t m k c w := rfl
def mputS (t : TypeId) (m k v : Value) : Sem Unit := Instr.mapUpdate t m k v
def mputR (P : Program) (t : TypeId) (m k v : Value) (w : World) : Result Unit := (Instr.mapUpdate t m k v).run P w
theorem mput_mputS (t : TypeId) (m k v : Value) : Instr.mapUpdate t m k v = mputS t m k v := rfl
theorem run_mputS (P : Program) (t : TypeId) (m k v : Value) (w : World) : (mputS t m k v).run P w = mputR P t m k v w := rfl
def mdelS (ts : Array TypeId) (ty : TypeId) (args : Array Value) : Sem Value := Builtin.delete_ ts ty args
def mdelR (P : Program) (ts : Array TypeId) (ty : TypeId) (args : Array Value) (w : World) : Result Value := (Builtin.delete_ ts ty args).run P w
theorem del_mdelS (ts : Array TypeId) (ty : TypeId) (args : Array Value) : Builtin.delete_ ts ty args = mdelS ts ty args := rfl
theorem run_mdelS (P : Program) (ts : Array TypeId) (ty : TypeId) (args : Array Value) (w : World) : (mdelS ts ty args).run P w = mdelR P ts ty args w := rfl
section
variable {κ : Type} [DecidableEq κ] {kenc : κ → Value} {P : Program} {mt kt et : TypeId} {b : Nat} {ps : List (κ × Value)} {o : Obj}
theorem lookR_at (K : KeyE P kt kenc) (hm : P.underlying mt = some (.map kt et)) {z : Value} (hz : ∀ w, (zeroValue et).run P w = .ok z w) (ho : IsMapO kenc o ps) (k : κ) (w : World) (hb : w.heap[b]? = some o) :
    lookR P mt (.map (some b)) (kenc k) false w = .ok ((lookA k ps).getD z) w := by
  obtain ⟨es, clock, rfl, he⟩ := ho
  have hf := K.find k ps es.toList
  unfold lookR
  simp only [Instr.lookup, Sem.run_bind, run_underlying hm, Result.andThen, getObj, Sem.run, hb, K.check, Sem.run_pure, hf _ he]
  cases h : findP k ps 0 with
  | none => rw [(findP_none h).1]; simp [hz]
  | some p =>
    obtain ⟨j, u⟩ := p
    obtain ⟨n, _, _, h3, _⟩ := findP_some h
    rw [h3]; simp
theorem lookR_ok (K : KeyE P kt kenc) (hm : P.underlying mt = some (.map kt et)) {z : Value} (hz : ∀ w, (zeroValue et).run P w = .ok z w) (ho : IsMapO kenc o ps) (k : κ) (w : World) (hb : w.heap[b]? = some o) :
    lookR P mt (.map (some b)) (kenc k) true w = .ok (.tuple #[(lookA k ps).getD z, .bool (lookA k ps).isSome]) w := by
  obtain ⟨es, clock, rfl, he⟩ := ho
  have hf := K.find k ps es.toList
  unfold lookR
  simp only [Instr.lookup, Sem.run_bind, run_underlying hm, Result.andThen, getObj, Sem.run, hb, K.check, Sem.run_pure, hf _ he]
  cases h : findP k ps 0 with
  | none => rw [(findP_none h).1]; simp [hz]
  | some p =>
    obtain ⟨j, u⟩ := p
    obtain ⟨n, _, _, h3, _⟩ := findP_some h
    rw [h3]; simp
theorem mputR_at (K : KeyE P kt kenc) (hm : P.underlying mt = some (.map kt et)) (ho : IsMapO kenc o ps) (k : κ) (v : Value) :
    ∃ o', IsMapO kenc o' (putA k v ps) ∧ ∀ w, w.heap[b]? = some o → mputR P mt (.map (some b)) (kenc k) v w = .ok () (setB w b o') := by
  obtain ⟨es, clock, rfl, he⟩ := ho
  have hf := K.find k ps es.toList
  cases h : findP k ps 0 with
  | none =>
    refine ⟨.map (es.push { key := kenc k, val := v, born := clock }) (clock + 1), ⟨_, _, rfl, ?_⟩, fun w hb => ?_⟩
    · rw [(findP_none h).2.1, Array.toList_push, List.map_append, List.map_append, he]; rfl
    · unfold mputR
      simp only [Instr.mapUpdate, Sem.run_bind, run_underlying hm, Result.andThen, getObj, Sem.run, hb, K.check, hf _ he, h, setObj, setB]
  | some p =>
    obtain ⟨j, u⟩ := p
    obtain ⟨n, hj, h2, h3, h4, h5⟩ := findP_some h
    obtain rfl : n = j := by omega
    have hl := congrArg List.length he
    simp only [List.length_map] at hl
    obtain ⟨hn, e2⟩ := List.getElem?_eq_some_iff.1 h2
    have hn2 : n < es.size := by rw [Array.length_toList] at hl; omega
    obtain ⟨e0, hkey⟩ : ∃ e0, es[n]? = some e0 := ⟨_, Array.getElem?_eq_getElem hn2⟩
    have hk : e0.key = kenc k := by
      have := congrArg (fun l => l[n]?) he
      simp only [List.getElem?_map, h2, Array.getElem?_toList, hkey, Option.map_some, Option.some.injEq, Prod.mk.injEq] at this
      exact this.1
    refine ⟨.map (es.modify n fun e => { e with key := kenc k, val := v }) clock, ⟨_, _, rfl, ?_⟩, fun w hb => ?_⟩
    · rw [h4]
      apply List.ext_getElem?
      intro i
      have hi := congrArg (fun l => l[i]?) he
      simp only [List.getElem?_map, Array.getElem?_toList] at hi
      simp only [List.getElem?_map, Array.getElem?_toList, Array.getElem?_modify, List.getElem?_set]
      by_cases hni : n = i
      · subst hni
        simp [hkey, hn]
      · simp only [hni, if_false]; exact hi
    · unfold mputR
      have hs := K.same k
      simp only [Instr.mapUpdate, Sem.run_bind, run_underlying hm, Result.andThen, getObj, Sem.run, hb, K.check, Sem.run_pure, hf _ he, h, setObj, setB, Instr.keyThatStays, hkey, Option.map_some, Option.getD_some, hk, hs, if_true]
theorem mdelR_at (K : KeyE P kt kenc) (hm : P.underlying mt = some (.map kt et)) (ho : IsMapO kenc o ps) (k : κ) (ty u : TypeId) :
    ∃ o', IsMapO kenc o' (dropA k ps) ∧ ∀ w, w.heap[b]? = some o → mdelR P #[mt, u] ty #[.map (some b), kenc k] w = .ok (.tuple #[]) (setB w b o') := by
  obtain ⟨es, clock, rfl, he⟩ := ho
  have hf := K.find k ps es.toList
  cases h : findP k ps 0 with
  | none =>
    refine ⟨.map es clock, ⟨_, _, rfl, ?_⟩, fun w hb => ?_⟩
    · rw [(findP_none h).2.2, he]
    · unfold mdelR
      simp [Builtin.delete_, Sem.run_bind, run_underlying hm, Result.andThen, getObj, Sem.run, hb, K.check, hf _ he, h, setObj, setB]
  | some p =>
    obtain ⟨j, x⟩ := p
    obtain ⟨n, hj, h2, h3, h4, h5⟩ := findP_some h
    obtain rfl : n = j := by omega
    have hl := congrArg List.length he
    simp only [List.length_map] at hl
    have hn := (List.getElem?_eq_some_iff.1 h2).1
    refine ⟨.map (es.eraseIdxIfInBounds n) clock, ⟨_, _, rfl, ?_⟩, fun w hb => ?_⟩
    · have hn' : n < es.size := by simp at hl; omega
      rw [h5, map_eraseIdx5, ← he, ← map_eraseIdx5]
      congr 1
      unfold Array.eraseIdxIfInBounds
      rw [dif_pos hn', Array.toList_eraseIdx]
    · unfold mdelR
      simp [Builtin.delete_, Sem.run_bind, run_underlying hm, Result.andThen, getObj, Sem.run, hb, K.check, hf _ he, h, setObj, setB]
omit [DecidableEq κ] in
theorem isMap_len (ho : IsMapO kenc o ps) : ∃ es clock, o = .map es clock ∧ es.size = ps.length := by
  obtain ⟨es, clock, rfl, he⟩ := ho
  have hl := congrArg List.length he
  simp only [List.length_map] at hl
  exact ⟨es, clock, rfl, by simpa using hl⟩
end
def lenMS (t ty : TypeId) (x : Value) : Sem Value := Builtin.len_ #[t] ty #[x]
def lenMR (P : Program) (t ty : TypeId) (x : Value) (w : World) : Result Value := (Builtin.len_ #[t] ty #[x]).run P w
theorem run_lenMS (P : Program) (t ty : TypeId) (x : Value) (w : World) : (lenMS t ty x).run P w = lenMR P t ty x w := rfl
theorem lenMR_at {κ : Type} {kenc : κ → Value} {P : Program} {mt kt et : TypeId} (hm : P.underlying mt = some (.map kt et)) {o : Obj} {ps : List (κ × Value)} (ho : IsMapO kenc o ps) {b : Nat} (ty : TypeId) (w : World) (hb : w.heap[b]? = some o) : lenMR P mt ty (.map (some b)) w = .ok (.int .i64 ps.length) w := by
  obtain ⟨es, clock, rfl, he⟩ := isMap_len ho
  rw [← he]
  unfold lenMR
  simp [Builtin.len_, run_underlying hm, getObj, Sem.run, hb, Sem.run_bind, Result.andThen, goInt]
/-- Whole numbers as keys. -/
theorem int_keyE {P : Program} {t : TypeId} (h : P.underlying t = some (.int .i64)) : KeyE P t (fun k : Int => Value.int .i64 k) where
  check e k w := MapKept.run_checkKey (d := .int .i64) (k := .int .i64 k) h (by simp [MapKept.IsKey]) e 9999
  find k ps es w he := by
    refine MapKept.run_findKey h ?_
    generalize 0 = i
    induction ps generalizing es i with
    | nil =>
      have : es = [] := by simpa using he
      subst this; rfl
    | cons p ps ih =>
      cases es with
      | nil => cases he
      | cons e es =>
        simp only [List.map_cons, List.cons.injEq, Prod.mk.injEq] at he
        obtain ⟨⟨h1, h2⟩, h3⟩ := he
        obtain ⟨a, v⟩ := p
        simp only at h1 h2
        unfold Instr.findNow findP
        rw [h1, h2]
        by_cases hk : a = k
        · subst hk; simp [Instr.sameNow]
        · have : (k == a) = false := by simpa using Ne.symm hk
          simp only [Instr.sameNow, if_true, this, if_neg hk]
          exact ih es h3 (i + 1)
  same k := by simp [Instr.sameBits]
end Go.Proofs.Ytnocekhgabgffaa
end
section
namespace Go.Proofs.Ytnocekhgabgffaa
open Go.RowKit
set_option linter.unusedVariables false
set_option maxHeartbeats 1000000

/-! ### An entry of a store buffer, a place, the newest of a place -/
structure Be where
  fl : Bool
  li : Int
  wo : Int
  va : Int
deriving DecidableEq
def Be.enc (e : Be) : List Value := [.bool e.fl, .int .i64 e.li, .int .i64 e.wo, .int .u64 e.va]
def bec (e : Be) : Array Value := (Be.enc e).toArray
def beZ : Be := ⟨false, 0, 0, 0⟩
theorem Be.len (e : Be) : (Be.enc e).length = 4 := rfl
theorem Be.one (e : Be) : ∀ v ∈ Be.enc e, v.oneCell' = true := by
  intro v hv
  simp only [Be.enc, List.mem_cons, List.not_mem_nil, or_false] at hv
  rcases hv with rfl | rfl | rfl | rfl <;> rfl
theorem bec_size (e : Be) : (bec e).size = 4 := by simp [bec, Be.enc]
theorem bec_one (e : Be) : allOne (bec e) := allOne_list _ (List.all_eq_true.2 (Be.one e))
theorem bec_fl (e : Be) : (bec e)[0]? = some (.bool e.fl) := rfl
theorem bec_li (e : Be) : (bec e)[1]? = some (.int .i64 e.li) := rfl
theorem bec_wo (e : Be) : (bec e)[2]? = some (.int .i64 e.wo) := rfl
theorem bec_va (e : Be) : (bec e)[3]? = some (.int .u64 e.va) := rfl
theorem bec_lit (f : Bool) (l o v : Int) : (#[.bool f, .int .i64 l, .int .i64 o, .int .u64 v] : Array Value) = bec ⟨f, l, o, v⟩ := rfl
theorem bec_enc (e : Be) : bec e = (Be.enc e).toArray := rfl
theorem bec_ne (e : Be) : (bec e = #[]) = False := eq_false (fun h => by have := congrArg Array.size h; rw [bec_size] at this; cases this)
theorem bec_set0 (e : Be) (v : Bool) : (bec e).setIfInBounds 0 (.bool v) = bec ⟨v, e.li, e.wo, e.va⟩ := by simp [bec, Be.enc]
theorem bec_set1 (e : Be) (v : Int) : (bec e).setIfInBounds 1 (.int .i64 v) = bec ⟨e.fl, v, e.wo, e.va⟩ := by simp [bec, Be.enc]
theorem bec_set2 (e : Be) (v : Int) : (bec e).setIfInBounds 2 (.int .i64 v) = bec ⟨e.fl, e.li, v, e.va⟩ := by simp [bec, Be.enc]
theorem bec_set3 (e : Be) (v : Int) : (bec e).setIfInBounds 3 (.int .u64 v) = bec ⟨e.fl, e.li, e.wo, v⟩ := by simp [bec, Be.enc]
def spC (l o : Int) : Array Value := #[.int .i64 l, .int .i64 o]
theorem spC_set0 (l o v : Int) : (spC l o).setIfInBounds 0 (.int .i64 v) = spC v o := by simp [spC]
theorem spC_set1 (l o v : Int) : (spC l o).setIfInBounds 1 (.int .i64 v) = spC l v := by simp [spC]
theorem spC_0 (l o : Int) : (spC l o)[0]? = some (.int .i64 l) := rfl
theorem spC_1 (l o : Int) : (spC l o)[1]? = some (.int .i64 o) := rfl
theorem spC_lit (l o : Int) : (#[.int .i64 l, .int .i64 o] : Array Value) = spC l o := rfl
theorem fold_spC (C : Array Value) (l o : Int) (h : C.size = 2) : Array.foldl (fun cs y => cs.setIfInBounds y.snd y.fst) C (spC l o).zipIdx 0 2 = spC l o := fold_all _ _ _ rfl h
theorem spC_ne (l o : Int) : (spC l o = #[]) = False := eq_false (fun h => by have := congrArg Array.size h; cases this)
def spV (k : Int × Int) : Value := .agg (spC k.1 k.2)
theorem spC_size (l o : Int) : (spC l o).size = 2 := by simp [spC]
theorem spC_one (l o : Int) : allOne (spC l o) := allOne_list _ rfl
theorem bec_at (e : Be) (t : TypeId) (f : Nat × Nat) : rowPart (some (.cells (bec e) t f)) 1 2 = spC e.li e.wo := rfl
theorem bec_in (e : Be) (t : TypeId) (f : Nat × Nat) : rowIn (some (.cells (bec e) t f)) 1 2 = true := by rw [rowIn_some, bec_size]; rfl
def nwC (m v : Int) : Array Value := #[.int .i64 m, .int .u64 v]
def nwV (p : Int × Int) : Value := .agg (nwC p.1 p.2)
theorem nwC_size (l o : Int) : (nwC l o).size = 2 := by simp [nwC]
theorem nwC_one (l o : Int) : allOne (nwC l o) := allOne_list _ rfl
theorem nwC_lit (m v : Int) : (#[.int .i64 m, .int .u64 v] : Array Value) = nwC m v := rfl
theorem nwC_0 (m v : Int) : (nwC m v)[0]? = some (.int .i64 m) := rfl
theorem nwC_1 (m v : Int) : (nwC m v)[1]? = some (.int .u64 v) := rfl
theorem nwC_set0 (m v k : Int) : (nwC m v).setIfInBounds 0 (.int .i64 k) = nwC k v := by simp [nwC]
theorem nwC_set1 (m v k : Int) : (nwC m v).setIfInBounds 1 (.int .u64 k) = nwC m k := by simp [nwC]
theorem nwC_ne (m v : Int) : (nwC m v = #[]) = False := eq_false (fun h => by have := congrArg Array.size h; rw [nwC_size] at this; cases this)
theorem fold_nwC (C : Array Value) (l o : Int) (h : C.size = 2) : Array.foldl (fun cs y => cs.setIfInBounds y.snd y.fst) C (nwC l o).zipIdx 0 2 = nwC l o := fold_all _ _ _ rfl h
theorem fold_bec (C : Array Value) (e : Be) (h : C.size = 4) : Array.foldl (fun cs y => cs.setIfInBounds y.snd y.fst) C (bec e).zipIdx 0 4 = bec e := fold_all _ _ _ (bec_size e) h
theorem fold_at (e : Be) (l o : Int) : Array.foldl (fun cs x => cs.setIfInBounds (1 + x.snd) x.fst) (bec e) (spC l o).zipIdx 0 2 = bec ⟨e.fl, l, o, e.va⟩ := rfl
def intEnc (x : Int) : List Value := [.int .i64 x]
theorem intEnc_len (x : Int) : (intEnc x).length = 1 := rfl
theorem intEnc_one (x : Int) : ∀ v ∈ intEnc x, v.oneCell' = true := by intro v hv; simp only [intEnc, List.mem_singleton] at hv; subst hv; rfl
/-- Whole numbers one behind the other. -/
def ic (xs : List Int) : Array Value := (xs.map (Value.int .i64)).toArray
theorem ic_size (xs : List Int) : (ic xs).size = xs.length := by simp [ic]
theorem ic_get (xs : List Int) (i : Nat) : (ic xs)[i]? = (xs[i]?).map (Value.int .i64) := by simp [ic]
theorem ic_set (xs : List Int) (i : Nat) (v : Int) : (ic xs).setIfInBounds i (.int .i64 v) = ic (xs.set i v) := by simp [ic, List.map_set]

/-! ### A core, as its cells say; as it is -/
structure Cx where
  A : Option Addr
  n : Nat
  cap : Nat
  ms : Nat
  mt : Nat
  st : Bool
  la : Ev
def Cx.enc (x : Cx) : List Value := [.slice x.A x.n x.cap, .map (some x.ms), .map (some x.mt), .bool x.st, .int .i64 x.la.kd, .int .i64 x.la.co, .int .i64 x.la.li, .int .i64 x.la.wo, .int .u64 x.la.va]
theorem Cx.len (x : Cx) : (Cx.enc x).length = 9 := rfl
theorem Cx.one (x : Cx) : ∀ v ∈ Cx.enc x, v.oneCell' = true := by
  intro v hv
  simp only [Cx.enc, List.mem_cons, List.not_mem_nil, or_false] at hv
  rcases hv with rfl | rfl | rfl | rfl | rfl | rfl | rfl | rfl | rfl <;> rfl
structure Bc where
  buf : List Be
  sm : List ((Int × Int) × (Int × Int))
  tm : List (Int × List Int)
  st : Bool
  la : Ev
def bcZ : Bc := ⟨[], [], [], false, evZ⟩
def newO (sm : List ((Int × Int) × (Int × Int))) (k : Int × Int) : Int × Int := (lookA k sm).getD (0, 0)
def Bc.putE (c : Bc) (x : Be) : Bc := { c with buf := c.buf ++ [x], sm := if x.fl then c.sm else putA (x.li, x.wo) ((newO c.sm (x.li, x.wo)).1 + 1, x.va) c.sm }
def takeSm (sm : List ((Int × Int) × (Int × Int))) (k : Int × Int) : List ((Int × Int) × (Int × Int)) :=
  if (newO sm k).1 - 1 = 0 then dropA k (putA k ((newO sm k).1 - 1, (newO sm k).2) sm) else putA k ((newO sm k).1 - 1, (newO sm k).2) sm
def Bc.takeE (c : Bc) (x : Be) : Option Bc :=
  match c.buf with
  | [] => none
  | y :: l => if y = x then some { c with buf := l, sm := if x.fl then c.sm else takeSm c.sm (x.li, x.wo) } else none
def Bc.settled (c : Bc) : Bool := c.buf.isEmpty && c.tm.isEmpty
def Bc.locks (c : Bc) (li wo : Int) : Bool := c.la.kd == 4 && (c.la.li == li && c.la.wo == wo)
def sentOf (c : Bc) (li : Int) : List Int := (lookA li c.tm).getD []
def Bc.sendE (c : Bc) (li p : Int) : Bc := { c with tm := putA li (sentOf c li ++ [p]) c.tm }
def Bc.ansE (c : Bc) (li : Int) : Bc := { c with tm := if (sentOf c li).length = 1 then dropA li (putA li (sentOf c li).tail c.tm) else putA li (sentOf c li).tail c.tm }

/-! ### A bus -/
structure Bs where
  vol : Nat
  ls : List Int
  ks : List Int
  ps : List Int
  cs : List Bc
def Bs.core (S : Bs) (i : Nat) : Bc := S.cs.getD i bcZ
def Bs.setC (S : Bs) (i : Nat) (c : Bc) : Bs := { S with cs := S.cs.set i c }
def Bs.word (S : Bs) (l o : Nat) : Int := S.ls.getD (l * 8 + o) 0
def Bs.setW (S : Bs) (l o : Nat) (v : Int) : Bs := { S with ls := S.ls.set (l * 8 + o) v }
def Bs.push (S : Bs) (l : Nat) : Bs := { S with ks := if S.vol ≤ l then lnPut S.ks l (ln S.ls l) else S.ks, ps := S.ps.set l (S.ps.getD l 0 + 1) }
def Bs.fail (S : Bs) : Bs := { S with ls := S.ks, cs := List.replicate S.cs.length bcZ }
def storeOf (e : Ev) : Be := ⟨false, e.li, e.wo, e.va⟩
def flushOf (e : Ev) : Be := ⟨true, e.li, 0, 0⟩
def isOfB (n m : Int) : Bool := decide (0 ≤ n) && decide (n < m)
def namesC (kd : Int) : Bool := kd != 5 && kd != 11
def namesL (kd : Int) : Bool := !(kd == 7 || kd == 8 || kd == 9 || kd == 10 || kd == 11)
def namesW (kd : Int) : Bool := kd == 12 || kd == 1 || kd == 2 || kd == 3 || kd == 4
def hasB (S : Bs) (e : Ev) : Bool := (!namesC e.kd || isOfB e.co S.cs.length) && (!namesL e.kd || isOfB e.li S.ps.length) && (!namesW e.kd || isOfB e.wo 8)
def kindB (kd : Int) : Bool := decide (1 ≤ kd) && decide (kd ≤ 14)
/-- What an event of its kind does; none: it is not allowed. -/
def actB (S : Bs) (e : Ev) : Option Bs :=
  let i := e.co.toNat
  let l := e.li.toNat
  let o := e.wo.toNat
  let c := S.core i
  if e.kd = 1 then (if !c.st && ((lookA (e.li, e.wo) c.sm).isNone && S.word l o == e.va) then some S else none)
  else if e.kd = 2 then (if !c.st && ((lookA (e.li, e.wo) c.sm).isSome && (newO c.sm (e.li, e.wo)).2 == e.va) then some S else none)
  else if e.kd = 3 then (match c.takeE (storeOf e) with
    | some c' => some ((S.setC i c').setW l o e.va)
    | none => if c.locks e.li e.wo then some (S.setW l o e.va) else none)
  else if e.kd = 4 then (if (!c.st && c.settled) && S.word l o == e.va then some S else none)
  else if e.kd = 5 then some (S.push l)
  else if e.kd = 6 then (if (sentOf c e.li).length = 0 ∨ (sentOf c e.li).headD 0 = S.ps.getD l 0 then none else some (S.setC i (c.ansE e.li)))
  else if e.kd = 7 then (if !c.st && c.settled then some S else none)
  else if e.kd = 8 then (if !c.st then some S else none)
  else if e.kd = 9 ∨ e.kd = 10 then (if !c.st then some (S.setC i { c with st := true }) else none)
  else if e.kd = 11 then some S.fail
  else if e.kd = 12 then (if !c.st then some (S.setC i (c.putE (storeOf e))) else none)
  else if e.kd = 13 then (match c.takeE (flushOf e) with
    | some c' => some (S.setC i (c'.sendE e.li (S.ps.getD l 0)))
    | none => none)
  else (if !c.st then some (S.setC i (c.putE (flushOf e))) else none)
def Bs.last (S : Bs) (e : Ev) : Bs := S.setC e.co.toNat { S.core e.co.toNat with la := e }
def lastB (S : Bs) (e : Ev) : Bs := if namesC e.kd then S.last e else S
def doB (S : Bs) (e : Ev) : Option Bs := if kindB e.kd && hasB S e then (actB S e).map (fun T => lastB T e) else none
/-- Numbers stay small. -/
structure Bc.Small (N : Nat) (c : Bc) : Prop where
  buf : c.buf.length ≤ N
  sm : ∀ p ∈ c.sm, -(N : Int) ≤ p.2.1 ∧ p.2.1 ≤ N
  tm : ∀ p ∈ c.tm, p.2.length ≤ N
structure Bs.Ok (n m : Nat) (N : Nat) (S : Bs) : Prop where
  n0 : 0 < n
  n64 : n ≤ 64
  m8 : m ≤ 8
  vol : S.vol ≤ n
  ls : S.ls.length = n * 8
  ks : S.ks.length = n * 8
  ps : S.ps.length = n
  cs : S.cs.length = m
  pb : ∀ p ∈ S.ps, 0 ≤ p ∧ p ≤ N
  cb : ∀ c ∈ S.cs, c.Small N
end Go.Proofs.Ytnocekhgabgffaa
end
section
namespace Go.Proofs.Ytnocekhgabgffaa
open Go.RowKit
set_option linter.unusedVariables false
set_option maxHeartbeats 1000000

/-! ### Numbers stay small -/
theorem Bc.Small.mono {N M : Nat} {c : Bc} (h : c.Small N) (hN : N ≤ M) : c.Small M :=
  ⟨Nat.le_trans h.buf hN, fun p hp => by have := h.sm p hp; omega, fun p hp => Nat.le_trans (h.tm p hp) hN⟩
theorem bcZ_small (N : Nat) : bcZ.Small N := ⟨Nat.zero_le _, by simp [bcZ], by simp [bcZ]⟩
theorem newO_small {N : Nat} {c : Bc} (h : c.Small N) (k : Int × Int) : -(N : Int) ≤ (newO c.sm k).1 ∧ (newO c.sm k).1 ≤ N := by
  unfold newO
  cases e : lookA k c.sm with
  | none => simp
  | some r => exact h.sm _ (lookA_mem e)
theorem putE_small {N : Nat} {c : Bc} (h : c.Small N) (y : Be) : (c.putE y).Small (N + 1) := by
  refine ⟨by simp [Bc.putE]; exact h.buf, fun p hp => ?_, fun p hp => Nat.le_succ_of_le (h.tm p hp)⟩
  unfold Bc.putE at hp
  cases hf : y.fl
  · simp only [hf, Bool.false_eq_true, if_false] at hp
    rcases mem_putA hp with rfl | hp
    · have := newO_small h (y.li, y.wo); simp only; omega
    · have := h.sm p hp; omega
  · simp only [hf, if_true] at hp
    have := h.sm p hp; omega
theorem takeE_small {N : Nat} {c c' : Bc} (h : c.Small N) {y : Be} (ht : c.takeE y = some c') : c'.Small (N + 1) := by
  unfold Bc.takeE at ht
  cases hb : c.buf with
  | nil => rw [hb] at ht; cases ht
  | cons z l =>
    rw [hb] at ht
    simp only at ht
    split at ht
    · cases ht
      have hbuf := h.buf
      rw [hb] at hbuf
      simp only [List.length_cons] at hbuf
      refine ⟨by show l.length ≤ N + 1; omega, fun p hp => ?_, fun p hp => Nat.le_succ_of_le (h.tm p hp)⟩
      simp only at hp
      split at hp
      · have := h.sm p hp; omega
      · have hq : ∀ p ∈ putA (y.li, y.wo) ((newO c.sm (y.li, y.wo)).1 - 1, (newO c.sm (y.li, y.wo)).2) c.sm, -((N + 1 : Nat) : Int) ≤ p.2.1 ∧ p.2.1 ≤ ((N + 1 : Nat) : Int) := fun p hp => by
          rcases mem_putA hp with rfl | hp
          · have := newO_small h (y.li, y.wo); simp only; omega
          · have := h.sm p hp; omega
        unfold takeSm at hp
        split at hp
        · exact hq p (mem_dropA hp)
        · exact hq p hp
    · cases ht
theorem sentOf_small {N : Nat} {c : Bc} (h : c.Small N) (l : Int) : (sentOf c l).length ≤ N := by
  unfold sentOf
  cases e : lookA l c.tm with
  | none => simp
  | some r => exact h.tm _ (lookA_mem e)
theorem ansE_small {N : Nat} {c : Bc} (h : c.Small N) (l : Int) : (c.ansE l).Small N := by
  refine ⟨h.buf, h.sm, fun q hq => ?_⟩
  have hp : ∀ q ∈ putA l (sentOf c l).tail c.tm, q.2.length ≤ N := fun q hq => by
    rcases mem_putA hq with rfl | hq
    · have := sentOf_small h l; simp; omega
    · exact h.tm q hq
  unfold Bc.ansE at hq
  simp only at hq
  split at hq
  · exact hp q (mem_dropA hq)
  · exact hp q hq
section
variable {n m N M : Nat} {S T : Bs}
theorem Bs.Ok.mono (h : S.Ok n m N) (hN : N ≤ M) : S.Ok n m M :=
  ⟨h.n0, h.n64, h.m8, h.vol, h.ls, h.ks, h.ps, h.cs, fun p hp => by have := h.pb p hp; omega, fun c hc => (h.cb c hc).mono hN⟩
theorem Bs.Ok.core (h : S.Ok n m N) (i : Nat) : (S.core i).Small N := by
  unfold Bs.core
  rw [List.getD_eq_getElem?_getD]
  cases e : S.cs[i]? with
  | none => exact bcZ_small N
  | some c => exact h.cb c (List.mem_of_getElem? e)
theorem Bs.Ok.setC (h : S.Ok n m N) (i : Nat) {c : Bc} (hc : c.Small N) : (S.setC i c).Ok n m N :=
  ⟨h.n0, h.n64, h.m8, h.vol, h.ls, h.ks, h.ps, by simp [Bs.setC, h.cs], h.pb, fun d hd => by
    rcases List.mem_or_eq_of_mem_set hd with hd | rfl
    · exact h.cb d hd
    · exact hc⟩
theorem Bs.Ok.setW (h : S.Ok n m N) (l o : Nat) (v : Int) : (S.setW l o v).Ok n m N :=
  ⟨h.n0, h.n64, h.m8, h.vol, by simp [Bs.setW, h.ls], h.ks, h.ps, h.cs, h.pb, h.cb⟩
theorem Bs.Ok.push (h : S.Ok n m N) {l : Nat} (hl : l < n) : (S.push l).Ok n m (N + 1) := by
  have h' := h.mono (Nat.le_succ N)
  refine ⟨h'.n0, h'.n64, h'.m8, h'.vol, h'.ls, ?_, by simp [Bs.push, h.ps], h'.cs, fun p hp => ?_, h'.cb⟩
  · unfold Bs.push
    simp only
    split
    · have f1 : Fit (l * 8) 8 S.ls.length := by have := h.ls; unfold Fit; omega
      have f2 : Fit (l * 8) 8 S.ks.length := by have := h.ks; unfold Fit; omega
      rw [lnPut_length _ _ _ f2 (ln_length _ _ f1), h.ks]
    · exact h.ks
  · rcases List.mem_or_eq_of_mem_set hp with hp | rfl
    · exact h'.pb p hp
    · have hps : l < S.ps.length := by rw [h.ps]; exact hl
      have := h.pb _ (List.getElem_mem hps)
      rw [List.getD_eq_getElem?_getD, List.getElem?_eq_getElem hps]
      simp only [Option.getD_some]; omega
theorem Bs.Ok.fail (h : S.Ok n m N) : S.fail.Ok n m N :=
  ⟨h.n0, h.n64, h.m8, h.vol, h.ks, h.ks, h.ps, by simp [Bs.fail, h.cs], h.pb, fun c hc => by
    have := List.eq_of_mem_replicate hc; subst this; exact bcZ_small N⟩
theorem Bs.Ok.last (h : S.Ok n m N) (e : Ev) : (lastB S e).Ok n m N := by
  unfold lastB
  split
  · exact h.setC _ ⟨(h.core _).buf, (h.core _).sm, (h.core _).tm⟩
  · exact h
theorem ite_some {c : Prop} [Decidable c] {a b : Bs} (h : (if c then some a else none) = some b) : a = b := by
  split at h
  · exact Option.some.inj h
  · cases h
theorem act_ok (h : S.Ok n m N) {e : Ev} (hk : kindB e.kd = true) (hh : hasB S e = true) (ha : actB S e = some T) : T.Ok n m (N + 1) := by
  have h1 := h.mono (Nat.le_succ N)
  have c0 := h.core e.co.toNat
  have hkd : e.kd = 1 ∨ e.kd = 2 ∨ e.kd = 3 ∨ e.kd = 4 ∨ e.kd = 5 ∨ e.kd = 6 ∨ e.kd = 7 ∨ e.kd = 8 ∨ e.kd = 9 ∨ e.kd = 10 ∨ e.kd = 11 ∨ e.kd = 12 ∨ e.kd = 13 ∨ e.kd = 14 := by
    unfold kindB at hk
    have : 1 ≤ e.kd ∧ e.kd ≤ 14 := by simpa using hk
    omega
  unfold hasB at hh
  simp only [h.cs, h.ps, Bool.and_eq_true, Bool.or_eq_true, Bool.not_eq_true'] at hh
  obtain ⟨⟨hC, hL⟩, hW⟩ := hh
  obtain ⟨kd, co, li, wo, va⟩ := e
  simp only at hkd hC hL hW c0
  rcases hkd with rfl | rfl | rfl | rfl | rfl | rfl | rfl | rfl | rfl | rfl | rfl | rfl | rfl | rfl
  · have := ite_some (show (if _ then some S else none) = some T from ha); subst this; exact h1
  · have := ite_some (show (if _ then some S else none) = some T from ha); subst this; exact h1
  · change (match (S.core co.toNat).takeE (storeOf ⟨3, co, li, wo, va⟩) with
      | some c' => some ((S.setC co.toNat c').setW li.toNat wo.toNat va)
      | none => if (S.core co.toNat).locks li wo then some (S.setW li.toNat wo.toNat va) else none) = some T at ha
    cases ht : (S.core co.toNat).takeE (storeOf ⟨3, co, li, wo, va⟩) with
    | none => rw [ht] at ha; have := ite_some ha; subst this; exact h1.setW _ _ _
    | some c' => rw [ht] at ha; cases ha; exact (h1.setC _ (takeE_small c0 ht)).setW _ _ _
  · have := ite_some (show (if _ then some S else none) = some T from ha); subst this; exact h1
  · cases ha
    have hl := hL.resolve_left (by simp [namesL])
    unfold isOfB at hl
    simp only [Bool.and_eq_true, decide_eq_true_eq] at hl
    exact h.push (by show li.toNat < n; omega)
  · change (if (sentOf (S.core co.toNat) li).length = 0 ∨ (sentOf (S.core co.toNat) li).headD 0 = S.ps.getD li.toNat 0 then none else some (S.setC co.toNat ((S.core co.toNat).ansE li))) = some T at ha
    split at ha
    · cases ha
    · cases ha; exact (h.setC _ (ansE_small c0 li)).mono (Nat.le_succ N)
  · have := ite_some (show (if _ then some S else none) = some T from ha); subst this; exact h1
  · have := ite_some (show (if _ then some S else none) = some T from ha); subst this; exact h1
  · have := ite_some (show (if _ then some (S.setC co.toNat { S.core co.toNat with st := true }) else none) = some T from ha); subst this
    exact (h.setC (c := { S.core co.toNat with st := true }) _ ⟨c0.buf, c0.sm, c0.tm⟩).mono (Nat.le_succ N)
  · have := ite_some (show (if _ then some (S.setC co.toNat { S.core co.toNat with st := true }) else none) = some T from ha); subst this
    exact (h.setC (c := { S.core co.toNat with st := true }) _ ⟨c0.buf, c0.sm, c0.tm⟩).mono (Nat.le_succ N)
  · cases ha; exact h1.fail
  · have := ite_some (show (if _ then some (S.setC co.toNat ((S.core co.toNat).putE (storeOf ⟨12, co, li, wo, va⟩))) else none) = some T from ha); subst this
    exact h1.setC _ (putE_small c0 _)
  · change (match (S.core co.toNat).takeE (flushOf ⟨13, co, li, wo, va⟩) with
      | some c' => some (S.setC co.toNat (c'.sendE li (S.ps.getD li.toNat 0)))
      | none => none) = some T at ha
    cases ht : (S.core co.toNat).takeE (flushOf ⟨13, co, li, wo, va⟩) with
    | none => rw [ht] at ha; cases ha
    | some c' =>
      rw [ht] at ha; cases ha
      refine h1.setC _ ?_
      have ct := takeE_small c0 ht
      have htm : c'.tm = (S.core co.toNat).tm := by
        unfold Bc.takeE at ht
        cases hb : (S.core co.toNat).buf with
        | nil => rw [hb] at ht; cases ht
        | cons z l =>
          rw [hb] at ht
          simp only at ht
          split at ht
          · cases ht; rfl
          · cases ht
      refine ⟨ct.buf, ct.sm, fun q hq => ?_⟩
      rcases mem_putA hq with rfl | hq
      · have : (sentOf c' li).length ≤ N := by
          have := sentOf_small c0 li
          unfold sentOf at this ⊢
          rw [htm]; exact this
        simp; exact this
      · rw [htm] at hq; exact Nat.le_succ_of_le (c0.tm q hq)
  · have := ite_some (show (if _ then some (S.setC co.toNat ((S.core co.toNat).putE (flushOf ⟨14, co, li, wo, va⟩))) else none) = some T from ha); subst this
    exact h1.setC _ (putE_small c0 _)
theorem do_ok (h : S.Ok n m N) (e : Ev) : ((doB S e).getD S).Ok n m (N + 1) := by
  unfold doB
  cases hk : kindB e.kd
  · exact h.mono (Nat.le_succ N)
  cases hh : hasB S e
  · exact h.mono (Nat.le_succ N)
  cases ha : actB S e with
  | none => exact h.mono (Nat.le_succ N)
  | some T => exact (act_ok h hk hh ha).last e
end
end Go.Proofs.Ytnocekhgabgffaa
end
section
namespace Go.Proofs.Ytnocekhgabgffaa
open Go.RowKit
set_option linter.unusedVariables false
set_option maxHeartbeats 1000000

/-! ### Flushes on their way, counted -/
def opn (c : Bc) : Int := ((c.tm.map fun p => p.2.length).sum : Nat)
def Full (c : Bc) : Prop := ∀ p ∈ c.tm, p.2 ≠ []
theorem sum_put (l : Int) (x : List Int) : ∀ tm : List (Int × List Int), ((putA l x tm).map fun p => p.2.length).sum + ((lookA l tm).getD []).length = (tm.map fun p => p.2.length).sum + x.length
  | [] => by simp [putA, lookA]
  | (a, u) :: tm => by
    unfold putA lookA
    by_cases h : a = l
    · simp only [if_pos h, List.map_cons, List.sum_cons, Option.getD_some]; omega
    · simp only [if_neg h, List.map_cons, List.sum_cons]
      have := sum_put l x tm
      omega
theorem sum_drop (l : Int) : ∀ tm : List (Int × List Int), ((dropA l (putA l [] tm)).map fun p => p.2.length).sum = ((putA l [] tm).map fun p => p.2.length).sum
  | [] => by simp [putA, dropA]
  | (a, u) :: tm => by
    unfold putA
    by_cases h : a = l
    · rw [if_pos h]; unfold dropA; rw [if_pos rfl]; simp
    · rw [if_neg h]; unfold dropA; rw [if_neg h]
      have := sum_drop l tm
      simp only [List.map_cons, List.sum_cons]; omega
theorem drop_full (l : Int) : ∀ {tm : List (Int × List Int)}, (∀ p ∈ tm, p.2 ≠ []) → ∀ p ∈ dropA l (putA l [] tm), p.2 ≠ []
  | [], _, p, hp => by simp [putA, dropA] at hp
  | (a, u) :: tm, h, p, hp => by
    unfold putA at hp
    by_cases e : a = l
    · rw [if_pos e] at hp; unfold dropA at hp; rw [if_pos rfl] at hp
      exact h p (List.mem_cons_of_mem _ hp)
    · rw [if_neg e] at hp; unfold dropA at hp; rw [if_neg e] at hp
      rcases List.mem_cons.1 hp with rfl | hp
      · exact h _ List.mem_cons_self
      · exact drop_full l (fun p hp => h p (List.mem_cons_of_mem _ hp)) p hp
theorem opn_send (c : Bc) (l p : Int) : opn (c.sendE l p) = opn c + 1 := by
  have := sum_put l (sentOf c l ++ [p]) c.tm
  unfold opn Bc.sendE
  simp only
  rw [List.length_append, List.length_singleton] at this
  unfold sentOf at this ⊢
  omega
theorem full_send {c : Bc} (h : Full c) (l p : Int) : Full (c.sendE l p) := fun q hq => by
  rcases mem_putA hq with rfl | hq
  · simp
  · exact h q hq
theorem opn_ans {c : Bc} {l : Int} (h : (sentOf c l).length ≠ 0) : opn (c.ansE l) = opn c - 1 := by
  have h1 := sum_put l (sentOf c l).tail c.tm
  unfold opn Bc.ansE
  simp only
  split
  · rename_i h2
    have ht : (sentOf c l).tail = [] := List.eq_nil_of_length_eq_zero (by rw [List.length_tail]; omega)
    rw [ht] at h1 ⊢
    have := sum_drop l c.tm
    unfold sentOf at h2
    simp only [List.length_nil] at h1
    omega
  · have ht : (sentOf c l).tail.length = (sentOf c l).length - 1 := List.length_tail
    unfold sentOf at h1 h ht ⊢
    omega
theorem full_ans {c : Bc} (h : Full c) {l : Int} (_h0 : (sentOf c l).length ≠ 0) : Full (c.ansE l) := by
  unfold Full Bc.ansE
  simp only
  split
  · rename_i h2
    have ht : (sentOf c l).tail = [] := List.eq_nil_of_length_eq_zero (by rw [List.length_tail]; omega)
    rw [ht]; exact drop_full l h
  · intro q hq
    rcases mem_putA hq with rfl | hq
    · intro e
      have : (sentOf c l).tail.length = 0 := by simp only at e; rw [e]; rfl
      rw [List.length_tail] at this
      omega
    · exact h q hq
theorem takeE_tm {c c' : Bc} {y : Be} (h : c.takeE y = some c') : c'.tm = c.tm ∧ c'.st = c.st := by
  unfold Bc.takeE at h
  cases hb : c.buf with
  | nil => rw [hb] at h; cases h
  | cons z l =>
    rw [hb] at h
    simp only at h
    split at h
    · cases h; exact ⟨rfl, rfl⟩
    · cases h
theorem core_setC {S : Bs} {i : Nat} (h : i < S.cs.length) (c : Bc) (k : Nat) : (S.setC i c).core k = if k = i then c else S.core k := by
  unfold Bs.core Bs.setC
  by_cases e : k = i
  · subst e; rw [if_pos rfl, List.getD_eq_getElem?_getD, List.getElem?_set_self h]; rfl
  · rw [if_neg e, List.getD_eq_getElem?_getD, List.getElem?_set_ne (Ne.symm e), ← List.getD_eq_getElem?_getD]
/-- What the statement counts, of core k. -/
structure FenI (S : Bs) (k : Nat) (o : Int) (s : Bool) : Prop where
  full : Full (S.core k)
  o : o = opn (S.core k)
  s : s = (S.core k).st
def fenO (k : Nat) (e : Ev) (o : Int) : Int := if e.kd = 11 then 0 else if e.co = k then (if e.kd = 13 then o + 1 else if e.kd = 6 then o - 1 else o) else o
def fenS (k : Nat) (e : Ev) (s : Bool) : Bool := if e.kd = 11 then false else if e.co = k then (if e.kd = 9 ∨ e.kd = 10 then true else s) else s
theorem FenI.same {S T : Bs} {k : Nat} {o : Int} {s : Bool} (h : FenI S k o s) (h1 : (T.core k).tm = (S.core k).tm) (h2 : (T.core k).st = (S.core k).st) : FenI T k o s := by
  refine ⟨?_, ?_, ?_⟩
  · unfold Full; rw [h1]; exact h.full
  · rw [h.o]; unfold opn; rw [h1]
  · rw [h.s, h2]
theorem last_core {S : Bs} {e : Ev} {k : Nat} : ((lastB S e).core k).tm = (S.core k).tm ∧ ((lastB S e).core k).st = (S.core k).st := by
  unfold lastB
  split
  · unfold Bs.last
    by_cases h : e.co.toNat < S.cs.length
    · rw [core_setC h]
      split
      · rename_i e1; rw [e1]; exact ⟨rfl, rfl⟩
      · exact ⟨rfl, rfl⟩
    · have : S.setC e.co.toNat { S.core e.co.toNat with la := e } = S := by
        unfold Bs.setC
        rw [List.set_eq_of_length_le (by omega)]
      rw [this]; exact ⟨rfl, rfl⟩
  · exact ⟨rfl, rfl⟩
theorem fail_core (S : Bs) (k : Nat) : S.fail.core k = bcZ := by
  unfold Bs.core Bs.fail
  rw [List.getD_eq_getElem?_getD]
  simp only [List.getElem?_replicate]
  split <;> rfl
theorem FenI.act {S T : Bs} {n m N k : Nat} {o : Int} {s : Bool} (ok : S.Ok n m N) {e : Ev} (hk : kindB e.kd = true) (hh : hasB S e = true) (ha : actB S e = some T) (h : FenI S k o s) : FenI T k (fenO k e o) (fenS k e s) := by
  have hkd : e.kd = 1 ∨ e.kd = 2 ∨ e.kd = 3 ∨ e.kd = 4 ∨ e.kd = 5 ∨ e.kd = 6 ∨ e.kd = 7 ∨ e.kd = 8 ∨ e.kd = 9 ∨ e.kd = 10 ∨ e.kd = 11 ∨ e.kd = 12 ∨ e.kd = 13 ∨ e.kd = 14 := by
    unfold kindB at hk
    have : 1 ≤ e.kd ∧ e.kd ≤ 14 := by simpa using hk
    omega
  have hcs := ok.cs
  unfold hasB at hh
  simp only [ok.cs, ok.ps, Bool.and_eq_true, Bool.or_eq_true, Bool.not_eq_true'] at hh
  obtain ⟨⟨hC, hL⟩, hW⟩ := hh
  obtain ⟨kd, co, li, wo, va⟩ := e
  simp only at hkd hC hL hW
  have hci : namesC kd = true → co.toNat < S.cs.length ∧ (k = co.toNat ↔ co = k) := fun hn => by
    have := hC.resolve_left (by simp [hn])
    unfold isOfB at this
    simp only [Bool.and_eq_true, decide_eq_true_eq] at this
    omega
  have same : ∀ U : Bs, (∀ i c, U = S.setC i c → True) → True := fun _ _ => trivial
  have one : ∀ c' : Bc, namesC kd = true → c'.tm = (S.core co.toNat).tm → c'.st = (S.core co.toNat).st → FenI (S.setC co.toNat c') k o s := fun c' hn h1 h2 => by
    refine h.same ?_ ?_
    · rw [core_setC (hci hn).1]; split
      · rename_i e1; rw [h1, e1]
      · rfl
    · rw [core_setC (hci hn).1]; split
      · rename_i e1; rw [h2, e1]
      · rfl
  rcases hkd with rfl | rfl | rfl | rfl | rfl | rfl | rfl | rfl | rfl | rfl | rfl | rfl | rfl | rfl
  · have := ite_some (show (if _ then some S else none) = some T from ha); subst this; simpa [fenO, fenS] using h
  · have := ite_some (show (if _ then some S else none) = some T from ha); subst this; simpa [fenO, fenS] using h
  · change (match (S.core co.toNat).takeE (storeOf ⟨3, co, li, wo, va⟩) with
      | some c' => some ((S.setC co.toNat c').setW li.toNat wo.toNat va)
      | none => if (S.core co.toNat).locks li wo then some (S.setW li.toNat wo.toNat va) else none) = some T at ha
    have e0 : fenO k ⟨3, co, li, wo, va⟩ o = o := by simp [fenO]
    have e1 : fenS k ⟨3, co, li, wo, va⟩ s = s := by simp [fenS]
    rw [e0, e1]
    cases ht : (S.core co.toNat).takeE (storeOf ⟨3, co, li, wo, va⟩) with
    | none => rw [ht] at ha; have := ite_some ha; subst this; exact h.same rfl rfl
    | some c' =>
      rw [ht] at ha; cases ha
      obtain ⟨g1, g2⟩ := takeE_tm ht
      exact (one c' (by rfl) g1 g2).same rfl rfl
  · have := ite_some (show (if _ then some S else none) = some T from ha); subst this; simpa [fenO, fenS] using h
  · cases ha
    have e0 : fenO k ⟨5, co, li, wo, va⟩ o = o := by simp [fenO]
    have e1 : fenS k ⟨5, co, li, wo, va⟩ s = s := by simp [fenS]
    rw [e0, e1]
    exact h.same rfl rfl
  · change (if (sentOf (S.core co.toNat) li).length = 0 ∨ (sentOf (S.core co.toNat) li).headD 0 = S.ps.getD li.toNat 0 then none else some (S.setC co.toNat ((S.core co.toNat).ansE li))) = some T at ha
    split at ha
    · cases ha
    · rename_i h0
      cases ha
      have hn0 : (sentOf (S.core co.toNat) li).length ≠ 0 := fun e => h0 (.inl e)
      obtain ⟨g1, g2⟩ := hci (by rfl)
      have cs := core_setC g1 ((S.core co.toNat).ansE li) k
      by_cases e : k = co.toNat
      · rw [if_pos e] at cs
        have e2 := g2.1 e
        refine ⟨?_, ?_, ?_⟩
        · rw [cs]; exact full_ans (e ▸ h.full) hn0
        · rw [cs, opn_ans hn0]
          simp only [fenO]
          rw [if_neg (by decide), if_pos e2, if_neg (by decide), if_pos trivial, h.o, ← e]
        · rw [cs]
          simp only [fenS]
          rw [if_neg (by decide), if_pos e2, if_neg (by decide), h.s, ← e]; rfl
      · rw [if_neg e] at cs
        have e2 : ¬ co = k := fun x => e (g2.2 x)
        simp only [fenO, fenS, if_neg e2]
        exact h.same (by rw [cs]) (by rw [cs])
  · have := ite_some (show (if _ then some S else none) = some T from ha); subst this; simpa [fenO, fenS] using h
  · have := ite_some (show (if _ then some S else none) = some T from ha); subst this; simpa [fenO, fenS] using h
  · have := ite_some (show (if _ then some (S.setC co.toNat { S.core co.toNat with st := true }) else none) = some T from ha); subst this
    obtain ⟨g1, g2⟩ := hci (by rfl)
    have cs := core_setC g1 { S.core co.toNat with st := true } k
    by_cases e : k = co.toNat
    · rw [if_pos e] at cs
      have e2 := g2.1 e
      refine ⟨?_, ?_, ?_⟩
      · rw [cs]; exact (e ▸ h.full : Full (S.core co.toNat))
      · rw [cs]
        simp only [fenO]
        rw [if_neg (by decide), if_pos e2, if_neg (by decide), if_neg (by decide), h.o, e]; rfl
      · rw [cs]
        simp only [fenS]
        rw [if_neg (by decide), if_pos e2, if_pos (by decide)]
    · rw [if_neg e] at cs
      have e2 : ¬ co = k := fun x => e (g2.2 x)
      simp only [fenO, fenS, if_neg e2]
      exact h.same (by rw [cs]) (by rw [cs])
  · have := ite_some (show (if _ then some (S.setC co.toNat { S.core co.toNat with st := true }) else none) = some T from ha); subst this
    obtain ⟨g1, g2⟩ := hci (by rfl)
    have cs := core_setC g1 { S.core co.toNat with st := true } k
    by_cases e : k = co.toNat
    · rw [if_pos e] at cs
      have e2 := g2.1 e
      refine ⟨?_, ?_, ?_⟩
      · rw [cs]; exact (e ▸ h.full : Full (S.core co.toNat))
      · rw [cs]
        simp only [fenO]
        rw [if_neg (by decide), if_pos e2, if_neg (by decide), if_neg (by decide), h.o, e]; rfl
      · rw [cs]
        simp only [fenS]
        rw [if_neg (by decide), if_pos e2, if_pos (by decide)]
    · rw [if_neg e] at cs
      have e2 : ¬ co = k := fun x => e (g2.2 x)
      simp only [fenO, fenS, if_neg e2]
      exact h.same (by rw [cs]) (by rw [cs])
  · cases ha
    have cs := fail_core S k
    refine ⟨?_, by rw [cs]; rfl, by rw [cs]; rfl⟩
    rw [cs]; intro p hp; simp [bcZ] at hp
  · have := ite_some (show (if _ then some (S.setC co.toNat ((S.core co.toNat).putE (storeOf ⟨12, co, li, wo, va⟩))) else none) = some T from ha); subst this
    have := one _ (by rfl) (rfl : ((S.core co.toNat).putE (storeOf ⟨12, co, li, wo, va⟩)).tm = _) rfl
    simpa [fenO, fenS] using this
  · change (match (S.core co.toNat).takeE (flushOf ⟨13, co, li, wo, va⟩) with
      | some c' => some (S.setC co.toNat (c'.sendE li (S.ps.getD li.toNat 0)))
      | none => none) = some T at ha
    cases ht : (S.core co.toNat).takeE (flushOf ⟨13, co, li, wo, va⟩) with
    | none => rw [ht] at ha; cases ha
    | some c' =>
      rw [ht] at ha; cases ha
      obtain ⟨t1, t2⟩ := takeE_tm ht
      obtain ⟨g1, g2⟩ := hci (by rfl)
      have cs := core_setC g1 (c'.sendE li (S.ps.getD li.toNat 0)) k
      by_cases e : k = co.toNat
      · rw [if_pos e] at cs
        have e2 := g2.1 e
        have hf : Full c' := by unfold Full; rw [t1]; exact e ▸ h.full
        refine ⟨?_, ?_, ?_⟩
        · rw [cs]; exact full_send hf _ _
        · rw [cs, opn_send]
          simp only [fenO]
          rw [if_neg (by decide), if_pos e2, if_pos trivial, h.o]
          unfold opn; rw [t1, ← e]
        · rw [cs]
          simp only [fenS]
          rw [if_neg (by decide), if_pos e2, if_neg (by decide), h.s]
          show _ = c'.st
          rw [t2, ← e]
      · rw [if_neg e] at cs
        have e2 : ¬ co = k := fun x => e (g2.2 x)
        simp only [fenO, fenS, if_neg e2]
        exact h.same (by rw [cs]) (by rw [cs])
  · have := ite_some (show (if _ then some (S.setC co.toNat ((S.core co.toNat).putE (flushOf ⟨14, co, li, wo, va⟩))) else none) = some T from ha); subst this
    have := one _ (by rfl) (rfl : ((S.core co.toNat).putE (flushOf ⟨14, co, li, wo, va⟩)).tm = _) rfl
    simpa [fenO, fenS] using this
theorem FenI.step {S T : Bs} {n m N k : Nat} {o : Int} {s : Bool} (ok : S.Ok n m N) {e : Ev} (hd : doB S e = some T) (h : FenI S k o s) : FenI T k (fenO k e o) (fenS k e s) := by
  unfold doB at hd
  cases hk : kindB e.kd
  · rw [hk] at hd; cases hd
  cases hh : hasB S e
  · rw [hk, hh] at hd; cases hd
  rw [hk, hh] at hd
  cases ha : actB S e with
  | none => rw [ha] at hd; cases hd
  | some U =>
    rw [ha] at hd
    have : lastB U e = T := by simpa using hd
    subst this
    obtain ⟨g1, g2⟩ := last_core (S := U) (e := e) (k := k)
    exact (h.act ok hk hh ha).same g1 g2
end Go.Proofs.Ytnocekhgabgffaa
end
section
namespace Go.Proofs.Ytnocekhgabgffaa
open Go.RowKit
set_option linter.unusedVariables false
set_option maxHeartbeats 1000000

/-! ### A line's stores, one behind the other -/
def apE (l : List Int) (e : Ev) : List Int := l.set e.wo.toNat e.va
def apH (B : List Int) (H : List Ev) : List Int := H.foldl apE B
theorem apH_app (B : List Int) (H K : List Ev) : apH B (H ++ K) = apH (apH B H) K := by unfold apH; rw [List.foldl_append]
theorem apH_mem (w : Nat) : ∀ (H : List Ev) (B : List Int), (apH B H)[w]? = B[w]? ∨ ∃ e ∈ H, e.wo.toNat = w ∧ (apH B H)[w]? = some e.va
  | [], _ => .inl rfl
  | e :: H, B => by
    rcases apH_mem w H (apE B e) with h | ⟨x, hx, h1, h2⟩
    · show (apH (apE B e) H)[w]? = _ ∨ _
      by_cases hw : e.wo.toNat = w
      · by_cases hl : w < B.length
        · refine .inr ⟨e, by simp, hw, ?_⟩
          show (apH (apE B e) H)[w]? = _
          rw [h]; unfold apE; rw [hw, List.getElem?_set_self hl]
        · refine .inl ?_
          rw [h]; unfold apE; rw [List.getElem?_eq_none (by simp; omega), List.getElem?_eq_none (by omega)]
      · refine .inl ?_
        rw [h]; unfold apE; rw [List.getElem?_set_ne hw]
    · exact .inr ⟨x, List.mem_cons_of_mem _ hx, h1, h2⟩
/-- What a line was at a later moment: each word as it was, or as a store between says. -/
theorem apH_between {B : List Int} {H : List Ev} {f p : Nat} (hfp : f ≤ p) (w : Nat) : (apH B (H.take p))[w]? = (apH B (H.take f))[w]? ∨ ∃ e ∈ H.drop f, e.wo.toNat = w ∧ (apH B (H.take p))[w]? = some e.va := by
  have e1 : H.take p = H.take f ++ (H.take p).drop f := by
    have := List.take_append_drop f (H.take p)
    rw [List.take_take, Nat.min_eq_left hfp] at this
    exact this.symm
  rw [e1, apH_app]
  rcases apH_mem w ((H.take p).drop f) (apH B (H.take f)) with h | ⟨x, hx, h1, h2⟩
  · exact .inl h
  · refine .inr ⟨x, ?_, h1, h2⟩
    rw [List.drop_take] at hx
    exact List.mem_of_mem_take hx
/-! ### Pairs of keys, each once -/
section
variable {κ ν : Type} [DecidableEq κ]
theorem keys_put {k : κ} {v : ν} : ∀ {l : List (κ × ν)}, (l.map (·.1)).Nodup → ((putA k v l).map (·.1)).Nodup
  | [], _ => by simp [putA]
  | (a, u) :: l, h => by
    rw [List.map_cons, List.nodup_cons] at h
    unfold putA
    split
    · rename_i e; subst e; rw [List.map_cons, List.nodup_cons]; exact h
    · rename_i e
      rw [List.map_cons, List.nodup_cons]
      refine ⟨fun hm => ?_, keys_put h.2⟩
      obtain ⟨q, hq, hqa⟩ := List.mem_map.1 hm
      rcases mem_putA hq with rfl | hq
      · exact e hqa.symm
      · exact h.1 (List.mem_map.2 ⟨q, hq, hqa⟩)
theorem keys_drop {k : κ} : ∀ {l : List (κ × ν)}, (l.map (·.1)).Nodup → ((dropA k l).map (·.1)).Nodup
  | [], _ => by simp [dropA]
  | (a, u) :: l, h => by
    rw [List.map_cons, List.nodup_cons] at h
    unfold dropA
    split
    · exact h.2
    · rw [List.map_cons, List.nodup_cons]
      refine ⟨fun hm => ?_, keys_drop h.2⟩
      obtain ⟨q, hq, hqa⟩ := List.mem_map.1 hm
      exact h.1 (List.mem_map.2 ⟨q, mem_dropA hq, hqa⟩)
theorem lookA_no {k : κ} : ∀ {l : List (κ × ν)}, k ∉ l.map (·.1) → lookA k l = none
  | [], _ => rfl
  | (a, u) :: l, h => by
    rw [List.map_cons, List.mem_cons, not_or] at h
    unfold lookA
    rw [if_neg (Ne.symm h.1)]
    exact lookA_no h.2
theorem lookA_drop {k : κ} (j : κ) : ∀ {l : List (κ × ν)}, (l.map (·.1)).Nodup → lookA j (dropA k l) = if j = k then none else lookA j l
  | [], _ => by simp [dropA, lookA]
  | (a, u) :: l, h => by
    rw [List.map_cons, List.nodup_cons] at h
    unfold dropA
    by_cases e : a = k
    · subst e
      rw [if_pos rfl]
      by_cases hj : j = a
      · subst hj; rw [if_pos rfl]; exact lookA_no h.1
      · rw [if_neg hj]
        show lookA j l = if a = j then some u else lookA j l
        rw [if_neg (Ne.symm hj)]
    · rw [if_neg e]
      unfold lookA
      by_cases hj : a = j
      · subst hj; rw [if_pos rfl, if_neg e, if_pos rfl]
      · rw [if_neg hj, if_neg hj]; exact lookA_drop j h.2
end
theorem sent_send (c : Bc) (l p l' : Int) : sentOf (c.sendE l p) l' = if l' = l then sentOf c l ++ [p] else sentOf c l' := by
  unfold Bc.sendE
  show (lookA l' (putA l (sentOf c l ++ [p]) c.tm)).getD [] = _
  rw [lookA_put]
  split <;> rfl
theorem sent_ans {c : Bc} (hn : (c.tm.map (·.1)).Nodup) (l l' : Int) : sentOf (c.ansE l) l' = if l' = l then (sentOf c l).tail else sentOf c l' := by
  unfold Bc.ansE
  show (lookA l' (if (sentOf c l).length = 1 then dropA l (putA l (sentOf c l).tail c.tm) else putA l (sentOf c l).tail c.tm)).getD [] = _
  split
  · rename_i h1
    rw [lookA_drop l' (keys_put hn), lookA_put]
    have : (sentOf c l).tail = [] := List.eq_nil_of_length_eq_zero (by rw [List.length_tail]; omega)
    rw [this]
    split
    · rfl
    · rfl
  · rw [lookA_put]
    split <;> rfl
theorem keys_ans {c : Bc} (hn : (c.tm.map (·.1)).Nodup) (l : Int) : ((c.ansE l).tm.map (·.1)).Nodup := by
  unfold Bc.ansE
  simp only
  split
  · exact keys_drop (keys_put hn)
  · exact keys_put hn

/-! ### Two lists, one beside the other -/
section
variable {α β : Type}
def All2 (R : α → β → Prop) : List α → List β → Prop
  | [], [] => True
  | a :: l, b :: k => R a b ∧ All2 R l k
  | _, _ => False
theorem All2.imp {R T : α → β → Prop} : ∀ {l : List α} {k : List β}, All2 R l k → (∀ a, ∀ b ∈ k, R a b → T a b) → All2 T l k
  | [], [], _, _ => trivial
  | a :: l, b :: k, h, f => ⟨f a b List.mem_cons_self h.1, All2.imp h.2 (fun a b hb => f a b (List.mem_cons_of_mem _ hb))⟩
  | [], _ :: _, h, _ => h.elim
  | _ :: _, [], h, _ => h.elim
theorem All2.snoc {R : α → β → Prop} {a : α} {b : β} (hab : R a b) : ∀ {l : List α} {k : List β}, All2 R l k → All2 R (l ++ [a]) (k ++ [b])
  | [], [], _ => ⟨hab, trivial⟩
  | _ :: _, _ :: _, h => ⟨h.1, All2.snoc hab h.2⟩
  | [], _ :: _, h => h.elim
  | _ :: _, [], h => h.elim
end

/-! ### What the statement remembers -/
structure Kl where
  B : List Int
  H : List Ev
  p : Nat
  f : Nat
  M : Int
structure Snt where
  e : Ev
  s : Nat → Nat
  ws : List Int
  fs : List Int
def Snt.mt (c l : Int) (z : Snt) : Bool := decide (z.e.co = c) && decide (z.e.li = l)
def Snt.off (z : Snt) : Snt := { z with e := { z.e with co := -1 } }
structure Zok (n : Nat) (g : Nat → Kl) (z : Snt) : Prop where
  wl : z.ws.length = n * 8
  fl : z.fs.length = n
  s : ∀ k, k < n → z.s k ≤ (g k).H.length
  w : ∀ k, k < n → ln z.ws k = apH (g k).B ((g k).H.take (z.s k))
  m : ∀ k, k < n → z.fs[k]? = some ((g k).M + z.s k)
structure KI (n m : Nat) (S : Bs) (g : Nat → Kl) (fi : List Int) (Z : List Snt) : Prop where
  v0 : ∀ k, k < n → k < S.vol → ln S.ks k = List.replicate 8 0
  b8 : ∀ k, k < n → (g k).B.length = 8
  wo : ∀ k, k < n → ∀ e ∈ (g k).H, 0 ≤ e.wo
  L : ∀ k, k < n → ln S.ls k = apH (g k).B (g k).H
  K : ∀ k, k < n → S.vol ≤ k → ln S.ks k = apH (g k).B ((g k).H.take (g k).p)
  fp : ∀ k, k < n → (g k).f ≤ (g k).p ∧ (g k).p ≤ (g k).H.length
  fl : fi.length = n * 8
  fi : ∀ k, k < n → ln fi k = apH (g k).B ((g k).H.take (g k).f)
  zs : ∀ z ∈ Z, Zok n g z
  nd : ∀ c, c < m → ((S.core c).tm.map (·.1)).Nodup
  pd : ∀ c l : Nat, c < m → l < n → All2 (fun P z => P ≤ S.ps.getD l 0 ∧ (P < S.ps.getD l 0 → z.s l ≤ (g l).p)) (sentOf (S.core c) l) (Z.filter (Snt.mt c l))
section
variable {n m N : Nat} {S T : Bs} {g : Nat → Kl} {fi : List Int} {Z : List Snt}
theorem KI.same (h : KI n m S g fi Z) (h1 : T.ls = S.ls) (h2 : T.ks = S.ks) (h3 : T.ps = S.ps) (h4 : T.vol = S.vol) (h5 : ∀ c, c < m → (T.core c).tm = (S.core c).tm) : KI n m T g fi Z := by
  refine ⟨?_, h.b8, h.wo, ?_, ?_, h.fp, h.fl, h.fi, h.zs, ?_, ?_⟩
  · rw [h2, h4]; exact h.v0
  · rw [h1]; exact h.L
  · rw [h2, h4]; exact h.K
  · intro c hc; rw [h5 c hc]; exact h.nd c hc
  · intro c l hc hl
    have := h.pd c l hc hl
    unfold sentOf at this ⊢
    rw [h5 c hc, h3]; exact this
/-- What a failure leaves. -/
theorem KI.left (h : KI n m S g fi Z) {k : Nat} (hk : k < n) (hv : S.vol ≤ k) (w : Nat) : (ln S.ks k)[w]? = (ln fi k)[w]? ∨ ∃ e ∈ (g k).H.drop (g k).f, e.wo = (w : Int) ∧ (ln S.ks k)[w]? = some e.va := by
  rw [h.K k hk hv, h.fi k hk]
  rcases apH_between (B := (g k).B) (H := (g k).H) (h.fp k hk).1 w with h1 | ⟨e, he, h1, h2⟩
  · exact .inl h1
  · have := h.wo k hk e (List.mem_of_mem_drop he)
    exact .inr ⟨e, he, by omega, h2⟩
def gPu (g : Nat → Kl) (l : Nat) : Nat → Kl := fun k => if k = l then { g l with p := (g l).H.length } else g k
def gFa (g : Nat → Kl) (ks : List Int) : Nat → Kl := fun k => ⟨ln ks k, [], 0, 0, (g k).M + (g k).H.length⟩
theorem KI.push (ok : S.Ok n m N) (h : KI n m S g fi Z) {l : Nat} (hl : l < n) : KI n m (S.push l) (gPu g l) fi Z := by
  have f1 : Fit (l * 8) 8 S.ls.length := by have := ok.ls; unfold Fit; omega
  have f2 : Fit (l * 8) 8 S.ks.length := by have := ok.ks; unfold Fit; omega
  have hH : ∀ k, (gPu g l k).H = (g k).H := fun k => by unfold gPu; split <;> simp_all
  have hB : ∀ k, (gPu g l k).B = (g k).B := fun k => by unfold gPu; split <;> simp_all
  have hM : ∀ k, (gPu g l k).M = (g k).M := fun k => by unfold gPu; split <;> simp_all
  have hf : ∀ k, (gPu g l k).f = (g k).f := fun k => by unfold gPu; split <;> simp_all
  have hp : ∀ k, (gPu g l k).p = if k = l then (g l).H.length else (g k).p := fun k => by unfold gPu; split <;> simp_all
  have hks : ∀ k, ln (S.push l).ks k = if k = l ∧ S.vol ≤ l then ln S.ls l else ln S.ks k := fun k => by
    unfold Bs.push
    simp only
    by_cases hv : S.vol ≤ l
    · rw [if_pos hv]
      by_cases ek : k = l
      · subst ek; rw [if_pos ⟨rfl, hv⟩, ln_put_same _ _ _ f2 (ln_length _ _ f1)]
      · rw [if_neg (fun x => ek x.1), ln_put_other _ _ _ _ f2 (ln_length _ _ f1) (Ne.symm ek)]
    · rw [if_neg hv, if_neg (fun x => hv x.2)]
  refine ⟨?_, ?_, ?_, ?_, ?_, ?_, h.fl, ?_, ?_, h.nd, ?_⟩
  · intro k hk hv
    have hv' : k < S.vol := hv
    rw [hks, if_neg (by omega)]
    exact h.v0 k hk hv'
  · intro k hk; rw [hB]; exact h.b8 k hk
  · intro k hk; rw [hH]; exact h.wo k hk
  · intro k hk; rw [hB, hH]; exact h.L k hk
  · intro k hk hv
    have hv' : S.vol ≤ k := hv
    rw [hks, hB, hH, hp]
    by_cases ek : k = l
    · subst ek
      rw [if_pos ⟨rfl, hv'⟩, if_pos rfl, List.take_length]
      exact h.L k hk
    · rw [if_neg (fun x => ek x.1), if_neg ek]
      exact h.K k hk hv'
  · intro k hk
    have := h.fp k hk
    rw [hH, hf, hp]
    split
    · rename_i ek; subst ek; omega
    · exact this
  · intro k hk; rw [hB, hH, hf]; exact h.fi k hk
  · intro z hz
    have hz' := h.zs z hz
    exact ⟨hz'.wl, hz'.fl, fun k hk => by rw [hH]; exact hz'.s k hk, fun k hk => by rw [hB, hH]; exact hz'.w k hk, fun k hk => by rw [hM]; exact hz'.m k hk⟩
  · intro c j hc hj
    have h1 := h.pd c j hc hj
    have hps : (S.push l).ps.getD j 0 = if j = l then S.ps.getD l 0 + 1 else S.ps.getD j 0 := by
      unfold Bs.push
      simp only [List.getD_eq_getElem?_getD]
      by_cases ej : j = l
      · subst ej; rw [if_pos rfl, List.getElem?_set_self (by rw [ok.ps]; exact hj)]; rfl
      · rw [if_neg ej, List.getElem?_set_ne (Ne.symm ej)]
    rw [hps, hp]
    refine All2.imp (show All2 _ (sentOf (S.core c) j) _ from h1) fun P z hz hR => ?_
    by_cases ej : j = l
    · subst ej
      rw [if_pos rfl, if_pos rfl]
      exact ⟨by omega, fun _ => (h.zs z (List.mem_filter.1 hz).1).s j hj⟩
    · rw [if_neg ej, if_neg ej]
      exact hR
theorem KI.fail (h : KI n m S g fi Z) (ok : S.Ok n m N) : KI n m S.fail (gFa g S.ks) S.ks [] := by
  have l8 : ∀ k, k < n → (ln S.ks k).length = 8 := fun k hk => ln_length _ _ (by have := ok.ks; unfold Fit; omega)
  refine ⟨h.v0, fun k hk => l8 k hk, fun k hk e he => by simp [gFa] at he, fun k hk => rfl, fun k hk _ => rfl, fun k hk => ⟨Nat.le_refl _, Nat.le_refl _⟩, ok.ks, fun k hk => rfl, fun z hz => by simp at hz, ?_, ?_⟩
  · intro c hc; rw [fail_core]; simp [bcZ]
  · intro c j hc hj; rw [fail_core]; exact trivial
theorem KI.send (h : KI n m S g fi Z) (ok : S.Ok n m N) {c l : Nat} (hc : c < m) (hl : l < n) {c' : Bc} (ht : c'.tm = (S.core c).tm) {e : Ev} (he : e.co = c) (hel : e.li = l) {fs : List Int} (hfl : fs.length = n) (hfs : ∀ k, k < n → fs[k]? = some ((g k).M + (g k).H.length)) :
    KI n m (S.setC c (c'.sendE l (S.ps.getD l 0))) g fi (Z ++ [⟨e, fun k => (g k).H.length, S.ls, fs⟩]) := by
  have cs : ∀ j, (S.setC c (c'.sendE l (S.ps.getD l 0))).core j = if j = c then c'.sendE l (S.ps.getD l 0) else S.core j := fun j => core_setC (by rw [ok.cs]; exact hc) _ j
  refine ⟨h.v0, h.b8, h.wo, h.L, h.K, h.fp, h.fl, h.fi, ?_, ?_, ?_⟩
  · intro z hz
    rcases List.mem_append.1 hz with hz | hz
    · exact h.zs z hz
    · rw [List.mem_singleton] at hz
      subst hz
      exact ⟨ok.ls, hfl, fun k hk => Nat.le_refl _, fun k hk => by simp only [List.take_length]; exact h.L k hk, hfs⟩
  · intro j hj
    rw [cs]
    split
    · show ((putA _ _ c'.tm).map (·.1)).Nodup
      rw [ht]; exact keys_put (h.nd c hc)
    · exact h.nd j hj
  · intro j k hj hk
    have h1 := h.pd j k hj hk
    rw [cs, List.filter_append]
    show All2 (fun (P : Int) (z : Snt) => P ≤ S.ps.getD k 0 ∧ (P < S.ps.getD k 0 → z.s k ≤ (g k).p)) _ _
    by_cases ej : j = c
    · subst ej
      rw [if_pos rfl, sent_send]
      have hs : ∀ x, sentOf c' x = sentOf (S.core j) x := fun x => by unfold sentOf; rw [ht]
      rw [hs, hs]
      by_cases ek : k = l
      · subst ek
        rw [if_pos rfl, List.filter_cons_of_pos (by simp [Snt.mt, he, hel])]
        exact All2.snoc ⟨Int.le_refl _, fun x => by omega⟩ h1
      · rw [if_neg (by omega), List.filter_cons_of_neg (by simp [Snt.mt, he, hel]; omega)]
        simpa using h1
    · rw [if_neg ej, List.filter_cons_of_neg (by simp [Snt.mt, he, hel]; omega)]
      simpa using h1
end
end Go.Proofs.Ytnocekhgabgffaa
end
