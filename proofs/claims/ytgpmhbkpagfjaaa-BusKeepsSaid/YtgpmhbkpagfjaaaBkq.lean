/- What BusKeeps holds in memory, an element written. No condition. -/
import Derived.Test.YtgpmhbkpagfjaaaBkn
namespace Go.Proofs.Ytgpmhbkpagfjaaa
open Go.RowKit
set_option linter.unusedVariables false
set_option maxHeartbeats 1000000

section
variable {α : Type} {enc : α → List Value} {k : Nat} {e : TypeId} {w : World} {F : List Nat} {A : Option Addr} {cap : Nat} {xs : List α}
theorem cat_set (hk : ∀ a, (enc a).length = k) {x' : α} {d : Nat} {v : Value} (hd : d < k) : ∀ (xs : List α) (i : Nat) (x : α), xs[i]? = some x → (enc x).set d v = enc x' → (cat enc xs).set (i * k + d) v = cat enc (xs.set i x')
  | [], i, x, h, _ => by simp at h
  | y :: ys, 0, x, h, hv => by
    simp only [List.getElem?_cons_zero, Option.some.injEq] at h
    subst h
    rw [cat_cons, List.set_cons_zero, cat_cons, Nat.zero_mul, Nat.zero_add, List.set_append_left _ _ (by rw [hk]; exact hd), hv]
  | y :: ys, i + 1, x, h, hv => by
    rw [cat_cons, List.set_cons_succ, cat_cons, List.set_append_right _ _ (by rw [hk, Nat.add_mul]; omega), hk]
    congr 1
    rw [← cat_set hk hd ys i x (by simpa using h) hv]
    congr 1
    rw [Nat.add_mul]; omega
/-- Where an element lies. -/
theorem Vq.cell (hk : ∀ a, (enc a).length = k) (h0 : 0 < k) (h : Vq k e enc w F A cap xs) {i : Nat} {x : α} (hi : xs[i]? = some x) :
    ∃ (be o : Nat) (C : Array Value), F = [be] ∧ A = some ⟨be, o, none⟩ ∧ w.heap[be]? = some (.cells C e (0, 0)) ∧ (∀ d, d < k → C[o + i * k + d]? = (enc x)[d]?) := by
  rcases h with ⟨_, _, _, rfl⟩ | ⟨be, rfl, h⟩
  · simp at hi
  · have hl := (List.getElem?_eq_some_iff.1 hi).1
    have hs := h.sl hk
    rcases h with ⟨_, _, _, rfl⟩ | ⟨_, _, o, p, r, rfl, _, h5, _⟩
    · simp at hi
    · obtain ⟨c, t, f, g1, g2, _⟩ := hs.elem h0 hl (cat_part hk hi)
      rw [h5] at g1
      injection g1 with g1
      injection g1 with g1
      subst g1
      exact ⟨be, o, _, rfl, rfl, h5, g2⟩
/-- A cell of an element is written. -/
theorem Vq.put (hk : ∀ a, (enc a).length = k) (h : Vq k e enc w F A cap xs) {i d o be : Nat} {x x' : α} {v : Value} (hi : xs[i]? = some x) (hd : d < k) (hv : (enc x).set d v = enc x') (hA : A = some ⟨be, o, none⟩) :
    F = [be] ∧ Vq k e enc (w.setCell ⟨be, o + i * k + d, none⟩ v) [be] A cap (xs.set i x') := by
  rcases h with ⟨_, _, _, rfl⟩ | ⟨be', rfl, h⟩
  · simp at hi
  · have hl := (List.getElem?_eq_some_iff.1 hi).1
    rcases h with ⟨_, _, _, rfl⟩ | ⟨h1, h2, o', p, r, rfl, h4, h5, h6⟩
    · simp at hi
    · injection hA with hA
      injection hA with e1 e2
      subst e1; subst e2
      refine ⟨rfl, .inr ⟨be', rfl, .inr ⟨h1, by rw [List.length_set]; exact h2, o', p, r, rfl, h4, ?_, by rw [List.length_set]; exact h6⟩⟩⟩
      rw [heap_setCell, if_pos rfl, h5, rowSet_some]
      congr 2
      unfold sqo
      have hm : i * k + d < (cat enc xs).length := by
        rw [cat_length hk]
        have := mul_lt_of (k := k) hl
        omega
      rw [List.setIfInBounds_toArray, List.set_append_right _ _ (by omega), List.set_append_left _ _ (by omega), ← cat_set hk hd xs i x hi hv]
      congr 4
      omega
end
section
variable {W w w' : World} {n m q : Nat} {S T : Bs} {fi fi' : List Int} {si : Nat → List Ev} {mn : List Int} {es : List Ev} {Ws Ns : List (List Int)} {bf bs bm : Nat} {As Aw Af : Option Addr} {cs cw cf : Nat} {Fs Fw Ff R : List Nat} {svs ws fr : List Sv}
theorem KM.sentAt (h : KM W w n m q S fi si mn es Ws Ns bf bs bm As Aw Af cs cw cf Fs Fw Ff R svs ws fr) {k : Nat} {x : Ev} (hx : es[k]? = some x) :
    ∃ (be o : Nat) (C : Array Value), Fs = [be] ∧ As = some ⟨be, o, none⟩ ∧ w.heap[be]? = some (.cells C 38 (0, 0)) ∧ C[o + k * 5 + 1]? = some (.int .i64 x.co) ∧ C[o + k * 5 + 2]? = some (.int .i64 x.li) := by
  obtain ⟨be, o, C, h1, h2, h3, h4⟩ := h.he.cell Ev.len (by omega) hx
  exact ⟨be, o, C, h1, h2, h3, h4 1 (by omega), h4 2 (by omega)⟩
theorem KM.wasAt (h : KM W w n m q S fi si mn es Ws Ns bf bs bm As Aw Af cs cw cf Fs Fw Ff R svs ws fr) {k : Nat} {z : List Int} (hz : Ws[k]? = some z) :
    ∃ (be o b c : Nat) (r : List Value) (C : Array Value) (t : TypeId) (f : Nat × Nat), Fw = [be] ∧ Aw = some ⟨be, o, none⟩ ∧ w.heap[be]? = some (.cells C t f) ∧ C[o + k]? = some (.slice (some ⟨b, 0, none⟩) n c) ∧ n ≤ c ∧ b ∈ R ∧ w.heap[b]? = some (.cells (bk z r) 42 (0, 0)) := by
  have hl := (List.getElem?_eq_some_iff.1 hz).1
  have hwl := h.wl
  have hv : ws[k]? = some (ws[k]'(by omega)) := List.getElem?_eq_getElem _
  obtain ⟨b, c, r, g1, g2, g3, g4⟩ := h.wv k z _ hz hv
  obtain ⟨be, o, C, h1, h2, h3, h4⟩ := h.hw.cell Sv.len (by omega) hv
  have := h4 0 (by omega)
  rw [Nat.mul_one, Nat.add_zero, g1] at this
  exact ⟨be, o, b, c, r, C, _, _, h1, h2, h3, this, g2, g3, g4⟩
theorem KM.fromAt (h : KM W w n m q S fi si mn es Ws Ns bf bs bm As Aw Af cs cw cf Fs Fw Ff R svs ws fr) {k l : Nat} {z : List Int} {v : Int} (hz : Ns[k]? = some z) (hl : l < n) (hv : z[l]? = some v) (hzn : z.length = n) :
    ∃ (be o b ob c : Nat) (C : Array Value) (t : TypeId) (f : Nat × Nat) (D : Array Value) (t' : TypeId) (f' : Nat × Nat), Ff = [be] ∧ Af = some ⟨be, o, none⟩ ∧ w.heap[be]? = some (.cells C t f) ∧ C[o + k]? = some (.slice (some ⟨b, ob, none⟩) n c) ∧ w.heap[b]? = some (.cells D t' f') ∧ D[ob + l]? = some (.int .i64 v) := by
  have hk := (List.getElem?_eq_some_iff.1 hz).1
  have hrl := h.rl
  have hv' : fr[k]? = some (fr[k]'(by omega)) := List.getElem?_eq_getElem _
  generalize fr[k]'(by omega) = u at hv'
  obtain ⟨g1, ⟨g2, g3, g4⟩⟩ := h.rv k z u hz hv'
  obtain ⟨be, o, C, h1, h2, h3, h4⟩ := h.hr.cell Sv.len (by omega) hv'
  have h5 := h4 0 (by omega)
  rw [Nat.mul_one, Nat.add_zero] at h5
  obtain ⟨A, un, uc⟩ := u
  simp only at g1
  subst g1
  simp only at g2
  rcases g2 with ⟨_, g2 | ⟨b, ob, D, t', f', g5, g6, g7⟩⟩
  · omega
  · subst g5
    have g2' : Sl w 1 (some ⟨b, ob, none⟩) un (cat intEnc z) := ⟨by rw [cat_length intEnc_len]; omega, .inr ⟨b, ob, D, t', f', rfl, g6, g7⟩⟩
    obtain ⟨D', t2, f2, g8, g9⟩ := g2'.cell hl
    rw [cat_int, List.getElem?_map, hv] at g9
    exact ⟨be, o, b, ob, uc, C, _, _, D', t2, f2, h1, h2, h3, h5, g8, g9⟩
theorem KM.setCore (h : KM W w n m q S fi si mn es Ws Ns bf bs bm As Aw Af cs cw cf Fs Fw Ff R svs ws fr) {k be o : Nat} {x : Ev} (hx : es[k]? = some x) (hA : As = some ⟨be, o, none⟩) (v : Int) :
    KM W (w.setCell ⟨be, o + k * 5 + 1, none⟩ (.int .i64 v)) n m q S fi si mn (es.set k { x with co := v }) Ws Ns bf bs bm As Aw Af cs cw cf [be] Fw Ff R svs ws fr ∧ ∀ z ∈ R, (w.setCell ⟨be, o + k * 5 + 1, none⟩ (.int .i64 v)).heap[z]? = w.heap[z]? := by
  obtain ⟨n1, n2, n3, n4, n5, n6, n7, n8⟩ := h.ne
  obtain ⟨rfl, hp⟩ := h.he.put Ev.len (d := 1) (v := .int .i64 v) (x' := { x with co := v }) hx (by omega) rfl hA
  have hc : Chg [be] w (w.setCell ⟨be, o + k * 5 + 1, none⟩ (.int .i64 v)) := (Chg.refl [be] w).setCell be _ _ (.inl (by simp))
  have ho : ∀ z, z ≠ be → (w.setCell ⟨be, o + k * 5 + 1, none⟩ (.int .i64 v)).heap[z]? = w.heap[z]? := fun z hz => by rw [heap_setCell, if_neg hz]
  refine ⟨h.lists hc (by simp) hp (h.hw.at fun z hz => ho z (fun e => (n6 z hz).1 (by simp [e]))) h.wl h.wv (h.hr.at fun z hz => ho z (fun e => (n7 z hz).1 (by simp [e]))) h.rl h.rv (fun z hz => .inl hz) (fun z hz => .inl hz) (fun z hz => .inl hz) (fun z hz => n5 z hz) (fun z hz => (n6 z hz).2), fun z hz => ho z (fun e => (n8 z hz).2.2.2.1 (by simp [e]))⟩
end
/-! ### What a failure's round leaves -/
def fiK (fi ks : List Int) (k : Nat) : List Int := ks.take (k * 8) ++ fi.drop (k * 8)
theorem fiK_zero (fi ks : List Int) : fiK fi ks 0 = fi := by simp [fiK]
theorem fiK_all {fi ks : List Int} {n : Nat} (h1 : ks.length = n * 8) (h2 : fi.length = n * 8) : fiK fi ks n = ks := by
  unfold fiK
  rw [List.take_of_length_le (by omega), List.drop_eq_nil_of_le (by omega), List.append_nil]
theorem fiK_len {fi ks : List Int} {n k : Nat} (h1 : ks.length = n * 8) (h2 : fi.length = n * 8) (hk : k ≤ n) : (fiK fi ks k).length = n * 8 := by
  unfold fiK
  rw [List.length_append, List.length_take, List.length_drop]; omega
theorem fiK_put {fi ks : List Int} {n k : Nat} (h1 : ks.length = n * 8) (h2 : fi.length = n * 8) (hk : k < n) : lnPut (fiK fi ks k) k (ln ks k) = fiK fi ks (k + 1) := by
  have hl : (ks.take (k * 8)).length = k * 8 := by rw [List.length_take]; omega
  have h8 : (ln ks k).length = 8 := ln_length _ _ (show k * 8 + 8 ≤ ks.length by omega)
  unfold lnPut splice fiK
  rw [List.take_append_of_le_length (by omega), List.take_of_length_le (by omega), h8, List.drop_append, hl, List.drop_eq_nil_of_le (by omega), List.nil_append, List.drop_drop]
  have e1 : ks.take ((k + 1) * 8) = ks.take (k * 8) ++ ln ks k := by
    unfold ln
    rw [Nat.add_mul, Nat.one_mul, List.take_add]
  rw [e1]
  congr 2
  omega
theorem fiK_ln {fi ks : List Int} {n k : Nat} (h1 : ks.length = n * 8) (hk : k < n) : ln (fiK fi ks k) k = ln fi k := by
  have hl : (ks.take (k * 8)).length = k * 8 := by rw [List.length_take]; omega
  unfold ln fiK
  rw [List.drop_append, hl, List.drop_eq_nil_of_le (by omega), List.nil_append, Nat.sub_self, List.drop_zero]
def siK (si : Nat → List Ev) (k j : Nat) : List Ev := if j < k then [] else si j
theorem siK_zero (si : Nat → List Ev) : siK si 0 = si := by funext j; simp [siK]
theorem siK_at (si : Nat → List Ev) (k : Nat) : siK si k k = si k := by simp [siK]
theorem siK_put (si : Nat → List Ev) (k : Nat) : (fun j => if j = k then [] else siK si k j) = siK si (k + 1) := by
  funext j
  unfold siK
  by_cases h1 : j = k
  · rw [if_pos h1, if_pos (by omega)]
  · rw [if_neg h1]
    by_cases h2 : j < k
    · rw [if_pos h2, if_pos (by omega)]
    · rw [if_neg h2, if_neg (by omega)]
theorem siK_gone (g : Nat → Kl) (ks : List Int) {n k : Nat} (hk : k < n) : siK (sinceOf g) n k = sinceOf (gFa g ks) k := by
  unfold siK
  rw [if_pos hk]; rfl
def okJ (b0 : Bool) (H : List Ev) (w v : Int) (j : Nat) : Bool := b0 || (H.take j).any (fun e => e.wo == w && e.va == v)
theorem okJ_zero (b0 : Bool) (H : List Ev) (w v : Int) : okJ b0 H w v 0 = b0 := by simp [okJ]
theorem okJ_succ (b0 : Bool) {H : List Ev} (w v : Int) {j : Nat} {e : Ev} (he : H[j]? = some e) : okJ b0 H w v (j + 1) = (okJ b0 H w v j || (e.wo == w && e.va == v)) := by
  unfold okJ
  rw [List.take_add_one, he, List.any_append]
  simp [Bool.or_assoc]
theorem okJ_all {b0 : Bool} {H : List Ev} {w v : Int} (h : b0 = true ∨ ∃ e ∈ H, e.wo = w ∧ e.va = v) : okJ b0 H w v H.length = true := by
  unfold okJ
  rw [List.take_of_length_le (Nat.le_refl _)]
  rcases h with h | ⟨e, he, h1, h2⟩
  · rw [h]; rfl
  · rw [Bool.or_eq_true]
    exact .inr (List.any_eq_true.2 ⟨e, he, by simp [h1, h2]⟩)
section
variable {W w w' : World} {n m q : Nat} {S T : Bs} {fi fi' : List Int} {si si' : Nat → List Ev} {mn : List Int} {es : List Ev} {Ws Ns : List (List Int)} {bf bs bm : Nat} {As Aw Af : Option Addr} {cs cw cf : Nat} {Fs Fw Ff R : List Nat} {svs ws fr : List Sv}
theorem KM.sameSi (h : KM W w n m q S fi si mn es Ws Ns bf bs bm As Aw Af cs cw cf Fs Fw Ff R svs ws fr) (hs : ∀ k, k < n → si k = si' k) : KM W w n m q S fi si' mn es Ws Ns bf bs bm As Aw Af cs cw cf Fs Fw Ff R svs ws fr :=
  ⟨h.hf, h.hs, h.sl, fun k v hv => by
    have hk : k < n := by rw [← h.sl]; exact (List.getElem?_eq_some_iff.1 hv).1
    rw [← hs k hk]; exact h.sv k v hv, h.hm, h.ml, h.he, h.hw, h.wl, h.wv, h.hr, h.rl, h.rv, h.nd, h.ro, h.nw, h.bx⟩
end
/-! ### A flush is answered -/
theorem slR_back {α : Type} {enc : α → List Value} {k bytes : Nat} {P : Program} {t e : TypeId} {z : Value} (E : Elt P t e k bytes z enc) {w : World} {A : Option Addr} {n cap lo : Nat} {ys : List α} (hs : Sl w k A n (cat enc ys)) (hlo : lo ≤ n) (hc : n ≤ cap) :
    ∃ A', (∀ W, slR P t (.slice A n cap) (some (.int .i64 lo)) none none W = .ok (.slice A' (n - lo) (cap - lo)) W) ∧ Sl w k A' (n - lo) (cat enc (ys.drop lo)) := by
  refine ⟨if cap = lo then A else A.map (·.add (lo * k)), fun W => ?_, ?_⟩
  · obtain ⟨i0, hi0, hz0, hz1, hz2⟩ := info_parts E.info
    subst hz1
    unfold slR
    have h1 : (0 : Int) ≤ (lo : Int) := by omega
    simp [Instr.slice, Instr.sliceBounds, Instr.sliceBound, asIntOf, run_underlying E.slice, sizeOf, typeInfo, hi0, h1, hlo]
  · obtain ⟨h1, h2⟩ := hs
    have hl : ((ys.drop lo).map enc).flatten.length = (n - lo) * k := by
      show (cat enc (ys.drop lo)).length = _
      rw [← cat_drop E.len, List.length_drop, h1, Nat.sub_mul]
    refine ⟨hl, ?_⟩
    rcases Nat.eq_zero_or_pos (n - lo) with h0 | h0
    · exact .inl h0
    · rcases h2 with h2 | ⟨b, o, c, t', f, rfl, hb, hx⟩
      · omega
      · rw [if_neg (by omega)]
        refine .inr ⟨b, o + lo * k, c, t', f, by simp [Addr.add], hb, ?_⟩
        rw [← cat_drop E.len, ← hx, List.drop_take, List.drop_drop, Nat.sub_mul]
theorem mnOf_flush {n : Nat} (g : Nat → Kl) (l s : Nat) : mnOf n (gFl g l s) = mnOf n g := by
  unfold mnOf
  refine List.map_congr_left fun k _ => ?_
  unfold gFl
  split
  · rename_i h; subst h; rfl
  · rfl
theorem since_flush (g : Nat → Kl) (l s : Nat) : sinceOf (gFl g l s) = fun k => if k = l then (g l).H.drop s else sinceOf g k := by
  funext k
  unfold sinceOf gFl
  by_cases h : k = l
  · subst h; simp
  · simp [h]
theorem since_back {g : Nat → Kl} {l s : Nat} (h : (g l).f ≤ s) : (sinceOf g l).drop (s - (g l).f) = (g l).H.drop s := by
  unfold sinceOf
  rw [List.drop_drop]
  congr 1; omega
theorem off_map (A B : List Snt) (z : Snt) : (A ++ z.off :: B).map (·.ws) = (A ++ z :: B).map (·.ws) ∧ (A ++ z.off :: B).map (·.fs) = (A ++ z :: B).map (·.fs) := by
  simp [Snt.off]
theorem off_at {Z : List Snt} {k : Nat} {z : Snt} (hz : Z[k]? = some z) : Z = Z.take k ++ z :: Z.drop (k + 1) ∧ (Z.take k ++ z.off :: Z.drop (k + 1)).map (·.e) = (Z.map (·.e)).set k { z.e with co := -1 } := by
  have hk := (List.getElem?_eq_some_iff.1 hz).1
  have h2 := (List.getElem?_eq_some_iff.1 hz).2
  have h1 : Z = Z.take k ++ z :: Z.drop (k + 1) := by
    rw [← h2, List.getElem_cons_drop, List.take_append_drop]
  refine ⟨h1, ?_⟩
  have hl : (Z.take k).length = k := by rw [List.length_take]; omega
  conv => rhs; rw [h1]
  rw [List.map_append, List.map_append, List.set_append_right _ _ (by rw [List.length_map, hl]; exact Nat.le_refl _), List.length_map, hl, Nat.sub_self]
  rfl
/-- What is behind the stored cells: the words at the sending, the stores since. -/
theorem KM.flushed {W w w4 : World} {n m q : Nat} {S : Bs} {fi : List Int} {si : Nat → List Ev} {mn : List Int} {es : List Ev} {Ws Ns : List (List Int)} {bf bs bm : Nat} {As Aw Af : Option Addr} {cs cw cf : Nat} {Fs Fw Ff R : List Nat} {svs ws fr : List Sv}
    (h : KM W w n m q S fi si mn es Ws Ns bf bs bm As Aw Af cs cw cf Fs Fw Ff R svs ws fr) {q0 be n0 cap' l : Nat} {A' : Option Addr} {ys : List Ev} {xs : List Int} (hc : Chg [] w w4) (hv : Vec 5 38 Ev.enc w4 q0 be A' cap' ys) (hq0 : Old w4 q0) (hbe : w.heap.size ≤ be) (hn : ys.length = n0) (hx : xs.length = 8) (hl : Fit (l * 8) 8 fi.length) :
    KM W ((putRow w4 bf (l * 8) (vs xs)).setCell ⟨bs, l, none⟩ (.slice A' n0 cap')) n m q S (lnPut fi l xs) (fun k => if k = l then ys else si k) mn es Ws Ns bf bs bm As Aw Af cs cw cf Fs Fw Ff (R ++ [be]) (svs.set l ⟨A', n0, cap'⟩) ws fr := by
  have hlt := (hv.old hq0).lt
  have h1 := (h.more hc (ey := [be]) (fun z hz => by simp only [List.mem_singleton] at hz; subst hz; exact ⟨hbe, hlt⟩)).setFirst (l := l) hx hl
  refine h1.setSince (l := l) ⟨A', n0, cap'⟩ ?_ hn.symm
  have hbf : be ≠ bf := fun e => by have := h.lts bf (by simp); omega
  have hr := hv.rd Ev.len hn (R := R ++ [be]) (by simp)
  have hh : rowHas (w4.heap[bf]?) (l * 8) (vs xs).size = true := by
    rw [hc.keep h.hf (by simp), vs_size, hx]; exact rowHas_bk hl _ _
  exact hr.at (fun b hb => by
    have hm : b ≠ bf := by
      rcases List.mem_append.1 hb with hb | hb
      · exact (h.ne.2.2.2.2.2.2.2 b hb).1
      · simp only [List.mem_singleton] at hb; subst hb; exact hbf
    rw [heap_putRow _ _ _ _ _ hh, if_neg hm]) (fun _ h => h)
/-! ### A failure -/
theorem bk_cell {xs : List Int} {k u : Nat} {a : Int} (hu : u < 8) (h : (ln xs k)[u]? = some a) (r : List Value) : (bk xs r)[k * 8 + u]? = some (.int .u64 a) := by
  unfold ln at h
  rw [List.getElem?_take_of_lt hu, List.getElem?_drop] at h
  unfold bk
  rw [List.getElem?_toArray, List.getElem?_append_left (by rw [List.length_map]; exact (List.getElem?_eq_some_iff.1 h).1), List.getElem?_map, h]
  rfl
theorem ln_some {xs : List Int} {n k u : Nat} (hx : xs.length = n * 8) (hk : k < n) (hu : u < 8) : ∃ a, (ln xs k)[u]? = some a := by
  have h8 : (ln xs k).length = 8 := ln_length _ _ (show k * 8 + 8 ≤ xs.length by omega)
  exact ⟨_, List.getElem?_eq_getElem (by omega)⟩
section
variable {W w w' : World} {n m q : Nat} {S T : Bs} {fi fi' : List Int} {si : Nat → List Ev} {mn : List Int} {es : List Ev} {Ws Ns : List (List Int)} {bf bs bm : Nat} {As Aw Af : Option Addr} {cs cw cf : Nat} {Fs Fw Ff R : List Nat} {svs ws fr : List Sv}
/-- The row of 'since'. -/
theorem KM.sinceRow (h : KM W w n m q S fi si mn es Ws Ns bf bs bm As Aw Af cs cw cf Fs Fw Ff R svs ws fr) {k : Nat} (hk : k < n) : ∃ A c, (svc svs)[k]? = some (.slice A (si k).length c) ∧ ∀ j e, (si k)[j]? = some e →
    ∃ b o C t f, A = some ⟨b, o, none⟩ ∧ w.heap[b]? = some (.cells C t f) ∧ C[o + j * 5 + 3]? = some (.int .i64 e.wo) ∧ C[o + j * 5 + 4]? = some (.int .u64 e.va) := by
  have hv : svs[k]? = some (svs[k]'(by rw [h.sl]; exact hk)) := List.getElem?_eq_getElem _
  generalize svs[k]'(by rw [h.sl]; exact hk) = v at hv
  obtain ⟨⟨g1, g2, g3⟩, g4⟩ := h.sv k v hv
  refine ⟨v.A, v.cap, by rw [svc_get, hv, ← g4]; rfl, fun j e he => ?_⟩
  have hj := (List.getElem?_eq_some_iff.1 he).1
  have g1' := g1
  rcases g1 with ⟨_, g1 | ⟨b, o, C, t, f, hA, hb, hx⟩⟩
  · omega
  · rw [hA] at g1'
    obtain ⟨c, t', f', e1, e2, _⟩ := g1'.elem (i := j) (by omega) (by omega) (cat_part Ev.len he)
    exact ⟨b, o, c, t', f', hA, e1, e2 3 (by omega), e2 4 (by omega)⟩
theorem KM.failed (h : KM W w n m q S fi si mn es Ws Ns bf bs bm As Aw Af cs cw cf Fs Fw Ff R svs ws fr) {l : Nat} {xs : List Int} (hx : xs.length = 8) (hl : Fit (l * 8) 8 fi.length) :
    KM W ((putRow w bf (l * 8) (vs xs)).setCell ⟨bs, l, none⟩ (.slice none 0 0)) n m q S (lnPut fi l xs) (fun k => if k = l then [] else si k) mn es Ws Ns bf bs bm As Aw Af cs cw cf Fs Fw Ff R (svs.set l svZ) ws fr ∧
    ∀ z ∈ R, ((putRow w bf (l * 8) (vs xs)).setCell ⟨bs, l, none⟩ (.slice none 0 0)).heap[z]? = w.heap[z]? := by
  refine ⟨(h.setFirst (l := l) hx hl).setSince (l := l) svZ (Rd.nil _ _ _) rfl, fun z hz => ?_⟩
  have hn := h.ne.2.2.2.2.2.2.2 z hz
  have hh : rowHas (w.heap[bf]?) (l * 8) (vs xs).size = true := by
    rw [h.hf, vs_size, hx]; exact rowHas_bk hl _ _
  rw [heap_setCell, if_neg hn.2.1, heap_putRow _ _ _ _ _ hh, if_neg hn.1]
end
end Go.Proofs.Ytgpmhbkpagfjaaa
