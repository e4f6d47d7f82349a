/- A core of a bus in memory. No condition. -/
import Derived.Test.YtnocekhgabgffaaBux
namespace Go.Proofs.Ytnocekhgabgffaa
open Go.RowKit
set_option linter.unusedVariables false
set_option maxHeartbeats 1000000

/-! ### A slice of a block of its own, or none -/
section
variable {α : Type} {enc : α → List Value} {k bytes : Nat} {P : Program} {t ty e : TypeId} {z : Value}
theorem Vof.swap {w : World} {q q' be : Nat} {A : Option Addr} {cap : Nat} {xs : List α} (h : Vof k e enc w q be A cap xs) (hq : be ≠ q) (hq' : be ≠ q') : Vof k e enc w q' be A cap xs := by
  rcases h with ⟨h, _⟩ | ⟨_, h⟩
  · exact absurd h hq
  · exact .inr ⟨hq', h⟩
def Vq (k : Nat) (e : TypeId) (enc : α → List Value) (w : World) (F : List Nat) (A : Option Addr) (cap : Nat) (xs : List α) : Prop :=
  (F = [] ∧ A = none ∧ cap = 0 ∧ xs = []) ∨ ∃ be, F = [be] ∧ Vof k e enc w (be + 1) be A cap xs
theorem Vq.nil (k : Nat) (e : TypeId) (enc : α → List Value) (w : World) : Vq k e enc w [] none 0 ([] : List α) := .inl ⟨rfl, rfl, rfl, rfl⟩
variable {w w' : World} {F : List Nat} {A : Option Addr} {cap : Nat} {xs : List α}
theorem Vq.keep {l : List Nat} (h : Vq k e enc w F A cap xs) (hc : Chg l w w') (hb : ∀ b ∈ F, b ∉ l) : Vq k e enc w' F A cap xs := by
  rcases h with h | ⟨be, rfl, h⟩
  · exact .inl h
  · exact .inr ⟨be, rfl, h.keep hc (hb be (by simp))⟩
theorem Vq.le (h : Vq k e enc w F A cap xs) : xs.length ≤ cap := by
  rcases h with ⟨_, _, rfl, rfl⟩ | ⟨be, rfl, h⟩
  · simp
  · exact h.le
theorem Vq.old (h : Vq k e enc w F A cap xs) : ∀ b ∈ F, Old w b := by
  rcases h with ⟨rfl, _⟩ | ⟨be, rfl, h⟩
  · simp
  · intro b hb
    obtain rfl : b = be := by simpa using hb
    rcases h with ⟨h, _⟩ | ⟨_, _, o, p, r, _, _, h5, _⟩
    · omega
    · exact Go.Proofs.Ytnocekhgabgffaa.old h5
theorem Vq.nodup (h : Vq k e enc w F A cap xs) : F.Nodup := by
  rcases h with ⟨rfl, _⟩ | ⟨be, rfl, h⟩ <;> simp
theorem Vq.tail {x : α} {xs : List α} (hk : ∀ a, (enc a).length = k) (h : Vq k e enc w F A cap (x :: xs)) : Vq k e enc w F (behind k A cap) (cap - 1) xs := by
  rcases h with ⟨_, _, _, h⟩ | ⟨be, rfl, h⟩
  · cases h
  · exact .inr ⟨be, rfl, h.tail hk⟩
theorem Vq.first {x : α} {xs : List α} (hk : ∀ a, (enc a).length = k) (h : Vq k e enc w F A cap (x :: xs)) :
    ∃ (be o : Nat) (C : Array Value), F = [be] ∧ A = some ⟨be, o, none⟩ ∧ w.heap[be]? = some (.cells C e (0, 0)) ∧ rowIn (some (.cells C e (0, 0))) o k = true ∧ rowPart (some (.cells C e (0, 0))) o k = (enc x).toArray := by
  rcases h with ⟨_, _, _, h⟩ | ⟨be, rfl, h⟩
  · cases h
  · obtain ⟨_, o, C, h1, h2, h3, h4⟩ := h.first hk
    exact ⟨be, o, C, rfl, h1, h2, h3, h4⟩
theorem Vq.app (E : Elt P t e k bytes z enc) (hv : Vq k e enc w F A cap xs) {q : Nat} (hq : Old w q) (hqF : q ∉ F)
    {B : Option Addr} {m c : Nat} {ys : List α} (hs : Sl w k B m (cat enc ys)) (hm : ys.length = m) (hB : (xs.length + m) * bytes ≤ 140737488355328) (h63 : xs.length + m ≤ maxLen) :
    ∃ (F' : List Nat) (cap' : Nat) (A' : Option Addr) (w' : World), appR P t ty #[.slice A xs.length cap, .slice B m c] w = .ok (.slice A' (xs.length + m) cap') w' ∧ Vq k e enc w' F' A' cap' (xs ++ ys) ∧ (∀ b ∈ F', b ∈ F ∨ w.heap.size ≤ b) ∧ Chg F w w' := by
  rcases hv with ⟨rfl, rfl, rfl, rfl⟩ | ⟨be, rfl, h⟩
  · obtain ⟨be', cap', A', w', h1, h2, h3, h4, h5⟩ := (Vof.nil k e enc w q).app (ty := ty) E hq hs (c := c) hm hB h63
    have hc : Chg [] w w' := h4.less h5
    by_cases hbe : be' = q
    · rcases h2 with ⟨_, ha, hb, hx⟩ | ⟨hne, _⟩
      · exact ⟨[], cap', A', w', h1, .inl ⟨rfl, ha, hb, hx⟩, by simp, hc⟩
      · exact absurd hbe hne
    · refine ⟨[be'], cap', A', w', h1, .inr ⟨be', rfl, h2.swap hbe (by omega)⟩, ?_, hc⟩
      intro b hb
      obtain rfl : b = be' := by simpa using hb
      rcases h3 with h3 | h3
      · exact absurd h3 hbe
      · exact .inr h3
  · have hq2 : be ≠ q := fun e => hqF (by simp [e])
    obtain ⟨be', cap', A', w', h1, h2, h3, h4, h5⟩ := (h.swap (by omega) hq2).app (ty := ty) E hq hs (c := c) hm hB h63
    have hbe : be' ≠ q := by
      rcases h3 with h3 | h3
      · omega
      · have := hq.lt; omega
    refine ⟨[be'], cap', A', w', h1, .inr ⟨be', rfl, h2.swap hbe (by omega)⟩, ?_, h4⟩
    intro b hb
    obtain rfl : b = be' := by simpa using hb
    exact h3.imp (fun e => by simp [e]) id
end

theorem nodup_swap {N : Nat} {a F F' b : List Nat} (h : (a ++ (F ++ b)).Nodup) (ho : ∀ x ∈ a ++ b, x < N) (hF' : F'.Nodup) (hs : ∀ x ∈ F', x ∈ F ∨ N ≤ x) : (a ++ (F' ++ b)).Nodup := by
  rw [List.nodup_append] at h
  obtain ⟨h1, h2, h3⟩ := h
  rw [List.nodup_append] at h2
  obtain ⟨h4, h5, h6⟩ := h2
  rw [List.nodup_append]
  refine ⟨h1, List.nodup_append.2 ⟨hF', h5, fun x hx y hy => ?_⟩, fun x hx y hy => ?_⟩
  · rcases hs x hx with h | h
    · exact h6 x h y hy
    · have := ho y (by simp [hy]); omega
  · rcases List.mem_append.1 hy with hy | hy
    · rcases hs y hy with h | h
      · exact h3 x hx y (by simp [h])
      · have := ho x (by simp [hx]); omega
    · exact h3 x hx y (by simp [hy])

/-! ### Elements -/
theorem eltBe : Elt Try.prog 108 125 4 32 (.agg (bec beZ)) Be.enc where
  slice := Try.underlying108
  info := by kernel_rfl
  zero := bec_size beZ
  zone := by intro v hv; exact Be.one beZ v (by simpa [Value.cells, bec] using hv)
  pos := by omega
  len := Be.len
  one := Be.one
theorem eltI : Elt Try.prog 57 3 1 8 (.int .i64 0) intEnc where
  slice := Try.underlying57
  info := by kernel_rfl
  zero := rfl
  zone := by intro v hv; simp [Value.cells] at hv; subst hv; rfl
  pos := by omega
  len := intEnc_len
  one := intEnc_one
theorem be_sl {w : World} {b : Nat} {x : Be} {T : TypeId} {f : Nat × Nat} (h : w.heap[b]? = some (.cells (bec x) T f)) : Sl w 4 (some ⟨b, 0, none⟩) 1 (cat Be.enc [x]) :=
  ⟨by rw [cat_length Be.len]; rfl, .inr ⟨b, 0, _, T, f, rfl, h, by rw [cat_one]; rfl⟩⟩
theorem int_sl {w : World} {b : Nat} {x : Int} {T : TypeId} {f : Nat × Nat} (h : w.heap[b]? = some (.cells #[.int .i64 x] T f)) : Sl w 1 (some ⟨b, 0, none⟩) 1 (cat intEnc [x]) :=
  ⟨rfl, .inr ⟨b, 0, _, T, f, rfl, h, rfl⟩⟩

/-! ### A core in memory -/
structure Hs where
  F : List Nat
  A : Option Addr
  cap : Nat
  xs : List Int
def Hs.val (h : Hs) : Value := .slice h.A h.xs.length h.cap
def foot (hs : List (Int × Hs)) : List Nat := (hs.map fun p => p.2.F).flatten
theorem foot_cons (p : Int × Hs) (hs : List (Int × Hs)) : foot (p :: hs) = p.2.F ++ foot hs := rfl
theorem foot_some {k : Int} {h : Hs} : ∀ {hs : List (Int × Hs)}, lookA k hs = some h → ∃ R, (foot hs).Perm (h.F ++ R) ∧ (∀ h', (foot (putA k h' hs)).Perm (h'.F ++ R)) ∧ (∀ h', (foot (dropA k (putA k h' hs))).Perm R)
  | [], e => by cases e
  | (a, u) :: hs, e => by
    unfold lookA at e
    split at e
    · rename_i hk
      cases e
      refine ⟨foot hs, List.Perm.refl _, fun h' => ?_, fun h' => ?_⟩
      · unfold putA; rw [if_pos hk, foot_cons]
      · unfold putA; rw [if_pos hk]; unfold dropA; rw [if_pos rfl]
    · rename_i hk
      obtain ⟨R, h1, h2, h3⟩ := foot_some e
      refine ⟨u.F ++ R, ?_, fun h' => ?_, fun h' => ?_⟩
      · rw [foot_cons]; exact ((List.Perm.append_left _ h1).trans (by rw [← List.append_assoc, ← List.append_assoc]; exact List.Perm.append_right _ List.perm_append_comm))
      · unfold putA; rw [if_neg hk, foot_cons]; exact ((List.Perm.append_left _ (h2 h')).trans (by rw [← List.append_assoc, ← List.append_assoc]; exact List.Perm.append_right _ List.perm_append_comm))
      · unfold putA; rw [if_neg hk]; unfold dropA; rw [if_neg hk, foot_cons]; exact List.Perm.append_left _ (h3 h')
theorem foot_none {k : Int} : ∀ {hs : List (Int × Hs)} (h' : Hs), lookA k hs = none → foot (putA k h' hs) = foot hs ++ h'.F
  | [], h', _ => by simp [foot, putA]
  | (a, u) :: hs, h', e => by
    unfold lookA at e
    split at e
    · cases e
    · rename_i hk
      unfold putA; rw [if_neg hk, foot_cons, foot_none h' e, foot_cons, List.append_assoc]
structure CoM (w : World) (x : Cx) (F : List Nat) (c : Bc) : Prop where
  n : x.n = c.buf.length
  st : x.st = c.st
  la : x.la = c.la
  at_ : ∃ (Fb : List Nat) (hs : List (Int × Hs)), F.Perm (x.ms :: x.mt :: (Fb ++ foot hs)) ∧ Vq 4 125 Be.enc w Fb x.A x.cap c.buf ∧ MapAt spV w x.ms (onA nwV c.sm) ∧
    MapAt (fun k : Int => Value.int .i64 k) w x.mt (onA Hs.val hs) ∧ onA Hs.xs hs = c.tm ∧ ∀ p ∈ hs, Vq 1 3 intEnc w p.2.F p.2.A p.2.cap p.2.xs
theorem CoM.keep {w w' : World} {x : Cx} {F : List Nat} {c : Bc} {l : List Nat} (h : CoM w x F c) (hc : Chg l w w') (hb : ∀ b ∈ F, b ∉ l) : CoM w' x F c := by
  obtain ⟨h1, h2, h3, Fb, hs, h4, h5, h6, h7, h8, h9⟩ := h
  have hb' : ∀ b ∈ x.ms :: x.mt :: (Fb ++ foot hs), b ∉ l := fun b hm => hb b (h4.mem_iff.2 hm)
  refine ⟨h1, h2, h3, Fb, hs, h4, h5.keep hc (fun b hm => hb' b (by simp [hm])), h6.keep hc (hb' _ (by simp)), h7.keep hc (hb' _ (by simp)), h8, fun p hp => (h9 p hp).keep hc (fun b hm => hb' b ?_)⟩
  have : b ∈ foot hs := List.mem_flatten.2 ⟨_, List.mem_map.2 ⟨p, hp, rfl⟩, hm⟩
  simp [this]
/-- The same core, with another last event, or stopped. -/
theorem CoM.la_ {w : World} {x : Cx} {F : List Nat} {c : Bc} (h : CoM w x F c) (e : Ev) : CoM w { x with la := e } F { c with la := e } := ⟨h.n, h.st, rfl, h.at_⟩
theorem CoM.stop {w : World} {x : Cx} {F : List Nat} {c : Bc} (h : CoM w x F c) (b : Bool) : CoM w { x with st := b } F { c with st := b } := ⟨h.n, rfl, h.la, h.at_⟩
theorem CoM.old {w : World} {x : Cx} {F : List Nat} {c : Bc} (h : CoM w x F c) : ∀ b ∈ F, Old w b := by
  obtain ⟨_, _, _, Fb, hs, h4, h5, ⟨o6, h6, _⟩, ⟨o7, h7, _⟩, h8, h9⟩ := h
  intro b hb
  have hb := h4.mem_iff.1 hb
  simp only [List.mem_cons, List.mem_append] at hb
  rcases hb with rfl | rfl | hb | hb
  · exact lt_heap h6
  · exact lt_heap h7
  · exact h5.old b hb
  · obtain ⟨l, hl, hb⟩ := List.mem_flatten.1 hb
    obtain ⟨p, hp, rfl⟩ := List.mem_map.1 hl
    exact (h9 p hp).old b hb

/-! ### A core's cells in the block of all cores -/
theorem cx_cells {xs : List Cx} {i : Nat} {x : Cx} (h : xs[i]? = some x) :
    (sq Cx.enc xs [])[i * 9]? = some (.slice x.A x.n x.cap) ∧ (sq Cx.enc xs [])[i * 9 + 1]? = some (.map (some x.ms)) ∧ (sq Cx.enc xs [])[i * 9 + 2]? = some (.map (some x.mt)) ∧ (sq Cx.enc xs [])[i * 9 + 3]? = some (.bool x.st) ∧
    (sq Cx.enc xs [])[i * 9 + 4]? = some (.int .i64 x.la.kd) ∧ (sq Cx.enc xs [])[i * 9 + 5]? = some (.int .i64 x.la.co) ∧ (sq Cx.enc xs [])[i * 9 + 6]? = some (.int .i64 x.la.li) ∧ (sq Cx.enc xs [])[i * 9 + 7]? = some (.int .i64 x.la.wo) ∧ (sq Cx.enc xs [])[i * 9 + 8]? = some (.int .u64 x.la.va) :=
  ⟨sq_cell Cx.len h [] 0 (by omega), sq_cell Cx.len h [] 1 (by omega), sq_cell Cx.len h [] 2 (by omega), sq_cell Cx.len h [] 3 (by omega), sq_cell Cx.len h [] 4 (by omega), sq_cell Cx.len h [] 5 (by omega), sq_cell Cx.len h [] 6 (by omega), sq_cell Cx.len h [] 7 (by omega), sq_cell Cx.len h [] 8 (by omega)⟩
theorem sq_set9 {α : Type} {k : Nat} {enc : α → List Value} (hk : ∀ a, (enc a).length = k) {xs : List α} {i : Nat} {a b : α} {o : Nat} {v : Value} (h : xs[i]? = some a) (ho : o < k) (he : enc b = (enc a).set o v) : (sq enc xs []).setIfInBounds (i * k + o) v = sq enc (xs.set i b) [] := by
  unfold sq
  rw [List.append_nil, List.append_nil, List.setIfInBounds_toArray]
  congr 1
  induction xs generalizing i with
  | nil => cases h
  | cons y ys ih =>
    cases i with
    | zero =>
      obtain rfl : y = a := by simpa using h
      rw [List.set_cons_zero, cat_cons, cat_cons, he, Nat.zero_mul, Nat.zero_add, List.set_append_left _ _ (by rw [hk]; exact ho)]
    | succ i =>
      rw [List.set_cons_succ, cat_cons, cat_cons, ← ih (by simpa using h), List.set_append_right _ _ (by rw [hk, Nat.add_mul]; omega), hk]
      congr 2
      rw [Nat.add_mul]; omega
theorem cx_n {xs : List Cx} {i : Nat} {x : Cx} (h : xs[i]? = some x) (A : Option Addr) (n cap : Nat) : (sq Cx.enc xs []).setIfInBounds (i * 9) (.slice A n cap) = sq Cx.enc (xs.set i { x with A := A, n := n, cap := cap }) [] := sq_set9 (o := 0) Cx.len h (by omega) rfl
theorem cx_st {xs : List Cx} {i : Nat} {x : Cx} (h : xs[i]? = some x) (b : Bool) : (sq Cx.enc xs []).setIfInBounds (i * 9 + 3) (.bool b) = sq Cx.enc (xs.set i { x with st := b }) [] := sq_set9 (o := 3) Cx.len h (by omega) rfl
theorem cx_ev {xs : List Cx} {i : Nat} {x : Cx} (h : xs[i]? = some x) (t : TypeId) (f : Nat × Nat) : rowPart (some (.cells (sq Cx.enc xs []) t f)) (i * 9 + 4) 5 = evc x.la ∧ rowIn (some (.cells (sq Cx.enc xs []) t f)) (i * 9 + 4) 5 = true :=
  ⟨rowPart_sq Cx.len h [] t f 4 5 (by omega), rowIn_sq Cx.len (List.getElem?_eq_some_iff.1 h).1 [] t f 4 5 (by omega)⟩
theorem one_new (w : World) (a : Obj) : (w.alloc a).heap[w.heap.size]? = some a ∧ Chg [] w (w.alloc a) := ⟨(MapKept.heap_alloc w a).1, (Chg.refl [] w).alloc _⟩
def CoTo (w : World) (bc i : Nat) (xs : List Cx) (g : List Nat) (c : Bc) (w' : World) : Prop :=
  ∃ x' g', w'.heap[bc]? = some (.cells (sq Cx.enc (xs.set i x') []) 111 (0, 0)) ∧ CoM w' x' g' c ∧ g'.Nodup ∧ (∀ b ∈ g', b ∈ g ∨ w.heap.size ≤ b) ∧ Chg (bc :: g) w w'
/-- Where a core lies. -/
structure CoIn (w : World) (bc i : Nat) (xs : List Cx) (x : Cx) (g : List Nat) (c : Bc) : Prop where
  hb : w.heap[bc]? = some (.cells (sq Cx.enc xs []) 111 (0, 0))
  hx : xs[i]? = some x
  co : CoM w x g c
  nd : g.Nodup
  nb : bc ∉ g
theorem CoIn.keep {w w' : World} {bc i : Nat} {xs : List Cx} {x : Cx} {g : List Nat} {c : Bc} {l : List Nat} (h : CoIn w bc i xs x g c) (hc : Chg l w w') (hb : bc ∉ l) (hg : ∀ b ∈ g, b ∉ l) : CoIn w' bc i xs x g c :=
  ⟨hc.keep h.hb hb, h.hx, h.co.keep hc hg, h.nd, h.nb⟩
theorem CoTo.of {w w1 : World} {bc i : Nat} {xs : List Cx} {g : List Nat} {c : Bc} {w' : World} (h : CoTo w1 bc i xs g c w') (hc : Chg [] w w1) : CoTo w bc i xs g c w' := by
  obtain ⟨x', g', h1, h2, h3, h4, h5⟩ := h
  exact ⟨x', g', h1, h2, h3, fun b hb => (h4 b hb).imp id (fun h => Nat.le_trans hc.size h), (hc.mono (by simp)).trans h5⟩

theorem CoIn.made {w w' : World} {bc i : Nat} {xs : List Cx} {x : Cx} {g : List Nat} {c : Bc} (h : CoIn w bc i xs x g c) {Fb : List Nat} {hs' : List (Int × Hs)} (hF : g.Perm (x.ms :: x.mt :: (Fb ++ foot hs')))
    (ht : MapAt (fun k : Int => Value.int .i64 k) w x.mt (onA Hs.val hs')) (htm : onA Hs.xs hs' = c.tm) (hvt : ∀ p ∈ hs', Vq 1 3 intEnc w p.2.F p.2.A p.2.cap p.2.xs) (hc : Chg (x.ms :: bc :: Fb) w w')
    {F' : List Nat} {A' : Option Addr} {cap' : Nat} {buf' : List Be} {sm' : List ((Int × Int) × (Int × Int))}
    (hb' : w'.heap[bc]? = some (.cells (sq Cx.enc (xs.set i { x with A := A', n := buf'.length, cap := cap' }) []) 111 (0, 0))) (hv : Vq 4 125 Be.enc w' F' A' cap' buf')
    (hF' : ∀ z ∈ F', z ∈ Fb ∨ w.heap.size ≤ z) (hm : MapAt spV w' x.ms (onA nwV sm')) : CoTo w bc i xs g { c with buf := buf', sm := sm' } w' := by
  obtain ⟨hb, hx, hco, nd, nb⟩ := h
  have hnd := hF.nodup_iff.1 nd
  have hog : ∀ b ∈ g, b < w.heap.size := fun b hb => (hco.old b hb).lt
  have hgF : ∀ z ∈ foot hs', z ∈ g := fun z hz => hF.mem_iff.2 (by simp [hz])
  have hne : x.ms ∈ g ∧ x.mt ∈ g := ⟨hF.mem_iff.2 (by simp), hF.mem_iff.2 (by simp)⟩
  have hFb : ∀ z ∈ Fb, z ∈ g := fun z hz => hF.mem_iff.2 (by simp [hz])
  obtain ⟨hn, hst, hla, _⟩ := hco
  simp only [List.nodup_cons, List.mem_cons, List.mem_append, List.nodup_append] at hnd
  refine ⟨{ x with A := A', n := buf'.length, cap := cap' }, x.ms :: x.mt :: (F' ++ foot hs'), hb', ⟨rfl, hst, hla, F', hs', List.Perm.refl _, hv, hm, ht.keep hc ?_, htm, fun q hq => (hvt q hq).keep hc (fun z hz => ?_)⟩, ?_, ?_, ?_⟩
  · simp only [List.mem_cons, not_or]
    exact ⟨fun e => hnd.1 (.inl e.symm), fun e => nb (e ▸ hne.2), fun h => hnd.2.1 (.inl h)⟩
  · have hz' : z ∈ foot hs' := List.mem_flatten.2 ⟨_, List.mem_map.2 ⟨q, hq, rfl⟩, hz⟩
    simp only [List.mem_cons, not_or]
    exact ⟨fun e => hnd.1 (.inr (.inr (e ▸ hz'))), fun e => nb (e ▸ hgF z hz'), fun h => hnd.2.2.2.2 z h z hz' rfl⟩
  · refine nodup_swap (N := w.heap.size) (a := [x.ms, x.mt]) (F := Fb) (hF.nodup_iff.1 nd) ?_ hv.nodup hF'
    intro z hz
    simp only [List.mem_append, List.mem_cons, List.not_mem_nil, or_false] at hz
    rcases hz with (rfl | rfl) | hz
    · exact hog _ hne.1
    · exact hog _ hne.2
    · exact hog _ (hgF z hz)
  · intro z hz
    simp only [List.mem_append, List.mem_cons] at hz
    rcases hz with rfl | rfl | hz | hz
    · exact .inl hne.1
    · exact .inl hne.2
    · exact (hF' z hz).imp (hFb z) id
    · exact .inl (hgF z hz)
  · exact hc.mono (fun z hz => .inl (by
      simp only [List.mem_cons] at hz ⊢
      rcases hz with rfl | rfl | hz
      · exact .inr hne.1
      · exact .inl rfl
      · exact .inr (hFb z hz)))
end Go.Proofs.Ytnocekhgabgffaa
