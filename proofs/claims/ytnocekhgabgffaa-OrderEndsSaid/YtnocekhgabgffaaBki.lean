/- A bus that keeps, beside what the statement remembers. No condition. -/
import Derived.Test.YtnocekhgabgffaaBlf
namespace Go.Proofs.Ytnocekhgabgffaa
open Go.RowKit
set_option linter.unusedVariables false
set_option maxHeartbeats 1000000

/-! ### A line's stores, one behind the other -/
def apE (l : List Int) (e : Ev) : List Int := l.set e.wo.toNat e.va
def apH (B : List Int) (H : List Ev) : List Int := H.foldl apE B
theorem apH_len : ∀ (H : List Ev) (B : List Int), (apH B H).length = B.length
  | [], _ => rfl
  | e :: H, B => by
    show (apH (apE B e) H).length = _
    rw [apH_len H]; simp [apE]
theorem apH_app (B : List Int) (H K : List Ev) : apH B (H ++ K) = apH (apH B H) K := by unfold apH; rw [List.foldl_append]
theorem apH_one (B : List Int) (H : List Ev) (e : Ev) : apH B (H ++ [e]) = apE (apH B H) e := apH_app B H [e]
theorem apH_mem (w : Nat) : ∀ (H : List Ev) (B : List Int), (apH B H)[w]? = B[w]? ∨ ∃ e ∈ H, e.wo.toNat = w ∧ (apH B H)[w]? = some e.va
  | [], _ => .inl rfl
  | e :: H, B => by
    rcases apH_mem w H (apE B e) with h | ⟨x, hx, h1, h2⟩
    · show (apH (apE B e) H)[w]? = _ ∨ _
      by_cases hw : e.wo.toNat = w
      · by_cases hl : w < B.length
        · refine .inr ⟨e, by simp, hw, ?_⟩
          show (apH (apE B e) H)[w]? = _
          rw [h]; unfold apE; rw [hw, List.getElem?_set_self hl]
        · refine .inl ?_
          rw [h]; unfold apE; rw [List.getElem?_eq_none (by simp; omega), List.getElem?_eq_none (by omega)]
      · refine .inl ?_
        rw [h]; unfold apE; rw [List.getElem?_set_ne hw]
    · exact .inr ⟨x, List.mem_cons_of_mem _ hx, h1, h2⟩
/-- What a line was at a later moment: each word as it was, or as a store between says. -/
theorem apH_between {B : List Int} {H : List Ev} {f p : Nat} (hfp : f ≤ p) (w : Nat) : (apH B (H.take p))[w]? = (apH B (H.take f))[w]? ∨ ∃ e ∈ H.drop f, e.wo.toNat = w ∧ (apH B (H.take p))[w]? = some e.va := by
  have e1 : H.take p = H.take f ++ (H.take p).drop f := by
    have := List.take_append_drop f (H.take p)
    rw [List.take_take, Nat.min_eq_left hfp] at this
    exact this.symm
  rw [e1, apH_app]
  rcases apH_mem w ((H.take p).drop f) (apH B (H.take f)) with h | ⟨x, hx, h1, h2⟩
  · exact .inl h
  · refine .inr ⟨x, ?_, h1, h2⟩
    rw [List.drop_take] at hx
    exact List.mem_of_mem_take hx
theorem ln_set {xs : List Int} {l o : Nat} (v : Int) (ho : o < 8) (k : Nat) : ln (xs.set (l * 8 + o) v) k = if k = l then (ln xs l).set o v else ln xs k := by
  unfold ln
  split
  · rename_i h
    subst h
    rw [List.drop_set, if_neg (by omega), List.take_set]
    congr 1; omega
  · rename_i h
    rcases Nat.lt_or_gt_of_ne h with h1 | h1
    · rw [List.drop_set, if_neg (by omega), List.take_set, List.set_eq_of_length_le]
      simp; omega
    · rw [List.drop_set, if_pos (by omega)]

/-! ### Pairs of keys, each once -/
section
variable {κ ν : Type} [DecidableEq κ]
theorem keys_put {k : κ} {v : ν} : ∀ {l : List (κ × ν)}, (l.map (·.1)).Nodup → ((putA k v l).map (·.1)).Nodup
  | [], _ => by simp [putA]
  | (a, u) :: l, h => by
    rw [List.map_cons, List.nodup_cons] at h
    unfold putA
    split
    · rename_i e; subst e; rw [List.map_cons, List.nodup_cons]; exact h
    · rename_i e
      rw [List.map_cons, List.nodup_cons]
      refine ⟨fun hm => ?_, keys_put h.2⟩
      obtain ⟨q, hq, hqa⟩ := List.mem_map.1 hm
      rcases mem_putA hq with rfl | hq
      · exact e hqa.symm
      · exact h.1 (List.mem_map.2 ⟨q, hq, hqa⟩)
theorem keys_drop {k : κ} : ∀ {l : List (κ × ν)}, (l.map (·.1)).Nodup → ((dropA k l).map (·.1)).Nodup
  | [], _ => by simp [dropA]
  | (a, u) :: l, h => by
    rw [List.map_cons, List.nodup_cons] at h
    unfold dropA
    split
    · exact h.2
    · rw [List.map_cons, List.nodup_cons]
      refine ⟨fun hm => ?_, keys_drop h.2⟩
      obtain ⟨q, hq, hqa⟩ := List.mem_map.1 hm
      exact h.1 (List.mem_map.2 ⟨q, mem_dropA hq, hqa⟩)
theorem lookA_no {k : κ} : ∀ {l : List (κ × ν)}, k ∉ l.map (·.1) → lookA k l = none
  | [], _ => rfl
  | (a, u) :: l, h => by
    rw [List.map_cons, List.mem_cons, not_or] at h
    unfold lookA
    rw [if_neg (Ne.symm h.1)]
    exact lookA_no h.2
theorem lookA_drop {k : κ} (j : κ) : ∀ {l : List (κ × ν)}, (l.map (·.1)).Nodup → lookA j (dropA k l) = if j = k then none else lookA j l
  | [], _ => by simp [dropA, lookA]
  | (a, u) :: l, h => by
    rw [List.map_cons, List.nodup_cons] at h
    unfold dropA
    by_cases e : a = k
    · subst e
      rw [if_pos rfl]
      by_cases hj : j = a
      · subst hj; rw [if_pos rfl]; exact lookA_no h.1
      · rw [if_neg hj]
        show lookA j l = if a = j then some u else lookA j l
        rw [if_neg (Ne.symm hj)]
    · rw [if_neg e]
      unfold lookA
      by_cases hj : a = j
      · subst hj; rw [if_pos rfl, if_neg e, if_pos rfl]
      · rw [if_neg hj, if_neg hj]; exact lookA_drop j h.2
end
theorem sent_send (c : Bc) (l p l' : Int) : sentOf (c.sendE l p) l' = if l' = l then sentOf c l ++ [p] else sentOf c l' := by
  unfold Bc.sendE
  show (lookA l' (putA l (sentOf c l ++ [p]) c.tm)).getD [] = _
  rw [lookA_put]
  split <;> rfl
theorem sent_ans {c : Bc} (hn : (c.tm.map (·.1)).Nodup) (l l' : Int) : sentOf (c.ansE l) l' = if l' = l then (sentOf c l).tail else sentOf c l' := by
  unfold Bc.ansE
  show (lookA l' (if (sentOf c l).length = 1 then dropA l (putA l (sentOf c l).tail c.tm) else putA l (sentOf c l).tail c.tm)).getD [] = _
  split
  · rename_i h1
    rw [lookA_drop l' (keys_put hn), lookA_put]
    have : (sentOf c l).tail = [] := List.eq_nil_of_length_eq_zero (by rw [List.length_tail]; omega)
    rw [this]
    split
    · rfl
    · rfl
  · rw [lookA_put]
    split <;> rfl
theorem keys_ans {c : Bc} (hn : (c.tm.map (·.1)).Nodup) (l : Int) : ((c.ansE l).tm.map (·.1)).Nodup := by
  unfold Bc.ansE
  simp only
  split
  · exact keys_drop (keys_put hn)
  · exact keys_put hn

/-! ### Two lists, one beside the other -/
section
variable {α β : Type}
def All2 (R : α → β → Prop) : List α → List β → Prop
  | [], [] => True
  | a :: l, b :: k => R a b ∧ All2 R l k
  | _, _ => False
theorem All2.imp {R T : α → β → Prop} : ∀ {l : List α} {k : List β}, All2 R l k → (∀ a, ∀ b ∈ k, R a b → T a b) → All2 T l k
  | [], [], _, _ => trivial
  | a :: l, b :: k, h, f => ⟨f a b List.mem_cons_self h.1, All2.imp h.2 (fun a b hb => f a b (List.mem_cons_of_mem _ hb))⟩
  | [], _ :: _, h, _ => h.elim
  | _ :: _, [], h, _ => h.elim
theorem All2.snoc {R : α → β → Prop} {a : α} {b : β} (hab : R a b) : ∀ {l : List α} {k : List β}, All2 R l k → All2 R (l ++ [a]) (k ++ [b])
  | [], [], _ => ⟨hab, trivial⟩
  | _ :: _, _ :: _, h => ⟨h.1, All2.snoc hab h.2⟩
  | [], _ :: _, h => h.elim
  | _ :: _, [], h => h.elim
end

/-! ### What the statement remembers -/
structure Kl where
  B : List Int
  H : List Ev
  p : Nat
  f : Nat
  M : Int
structure Snt where
  e : Ev
  s : Nat → Nat
  ws : List Int
  fs : List Int
def Snt.mt (c l : Int) (z : Snt) : Bool := decide (z.e.co = c) && decide (z.e.li = l)
def Snt.off (z : Snt) : Snt := { z with e := { z.e with co := -1 } }
structure Zok (n : Nat) (g : Nat → Kl) (z : Snt) : Prop where
  wl : z.ws.length = n * 8
  fl : z.fs.length = n
  s : ∀ k, k < n → z.s k ≤ (g k).H.length
  w : ∀ k, k < n → ln z.ws k = apH (g k).B ((g k).H.take (z.s k))
  m : ∀ k, k < n → z.fs[k]? = some ((g k).M + z.s k)
structure KI (n m : Nat) (S : Bs) (g : Nat → Kl) (fi : List Int) (Z : List Snt) : Prop where
  v0 : ∀ k, k < n → k < S.vol → ln S.ks k = List.replicate 8 0
  b8 : ∀ k, k < n → (g k).B.length = 8
  wo : ∀ k, k < n → ∀ e ∈ (g k).H, 0 ≤ e.wo
  L : ∀ k, k < n → ln S.ls k = apH (g k).B (g k).H
  K : ∀ k, k < n → S.vol ≤ k → ln S.ks k = apH (g k).B ((g k).H.take (g k).p)
  fp : ∀ k, k < n → (g k).f ≤ (g k).p ∧ (g k).p ≤ (g k).H.length
  fl : fi.length = n * 8
  fi : ∀ k, k < n → ln fi k = apH (g k).B ((g k).H.take (g k).f)
  zs : ∀ z ∈ Z, Zok n g z
  nd : ∀ c, c < m → ((S.core c).tm.map (·.1)).Nodup
  pd : ∀ c l : Nat, c < m → l < n → All2 (fun P z => P ≤ S.ps.getD l 0 ∧ (P < S.ps.getD l 0 → z.s l ≤ (g l).p)) (sentOf (S.core c) l) (Z.filter (Snt.mt c l))
section
variable {n m N : Nat} {S T : Bs} {g : Nat → Kl} {fi : List Int} {Z : List Snt}
theorem KI.same (h : KI n m S g fi Z) (h1 : T.ls = S.ls) (h2 : T.ks = S.ks) (h3 : T.ps = S.ps) (h4 : T.vol = S.vol) (h5 : ∀ c, c < m → (T.core c).tm = (S.core c).tm) : KI n m T g fi Z := by
  refine ⟨?_, h.b8, h.wo, ?_, ?_, h.fp, h.fl, h.fi, h.zs, ?_, ?_⟩
  · rw [h2, h4]; exact h.v0
  · rw [h1]; exact h.L
  · rw [h2, h4]; exact h.K
  · intro c hc; rw [h5 c hc]; exact h.nd c hc
  · intro c l hc hl
    have := h.pd c l hc hl
    unfold sentOf at this ⊢
    rw [h5 c hc, h3]; exact this
/-- What a failure leaves. -/
theorem KI.left (h : KI n m S g fi Z) {k : Nat} (hk : k < n) (hv : S.vol ≤ k) (w : Nat) : (ln S.ks k)[w]? = (ln fi k)[w]? ∨ ∃ e ∈ (g k).H.drop (g k).f, e.wo = (w : Int) ∧ (ln S.ks k)[w]? = some e.va := by
  rw [h.K k hk hv, h.fi k hk]
  rcases apH_between (B := (g k).B) (H := (g k).H) (h.fp k hk).1 w with h1 | ⟨e, he, h1, h2⟩
  · exact .inl h1
  · have := h.wo k hk e (List.mem_of_mem_drop he)
    exact .inr ⟨e, he, by omega, h2⟩
def gSt (g : Nat → Kl) (l : Nat) (e : Ev) : Nat → Kl := fun k => if k = l then { g l with H := (g l).H ++ [e] } else g k
def gPu (g : Nat → Kl) (l : Nat) : Nat → Kl := fun k => if k = l then { g l with p := (g l).H.length } else g k
def gFl (g : Nat → Kl) (l s : Nat) : Nat → Kl := fun k => if k = l then { g l with f := s } else g k
def gFa (g : Nat → Kl) (ks : List Int) : Nat → Kl := fun k => ⟨ln ks k, [], 0, 0, (g k).M + (g k).H.length⟩
theorem KI.store (h : KI n m S g fi Z) {e : Ev} {l : Nat} (hl : l < n) (hw : 0 ≤ e.wo) (hw8 : e.wo < 8) : KI n m (S.setW l e.wo.toNat e.va) (gSt g l e) fi Z := by
  have tk : ∀ {j : Nat}, j ≤ (g l).H.length → ((g l).H ++ [e]).take j = (g l).H.take j := fun hj => List.take_append_of_le_length hj
  refine ⟨h.v0, ?_, ?_, ?_, ?_, ?_, h.fl, ?_, ?_, h.nd, ?_⟩
  · intro k hk; unfold gSt; split
    · exact h.b8 l hl
    · exact h.b8 k hk
  · intro k hk; unfold gSt; split
    · intro x hx
      rcases List.mem_append.1 hx with hx | hx
      · exact h.wo l hl x hx
      · rw [List.mem_singleton] at hx; subst hx; exact hw
    · exact h.wo k hk
  · intro k hk
    show ln (S.ls.set (l * 8 + e.wo.toNat) e.va) k = _
    rw [ln_set _ (by omega)]
    unfold gSt
    split
    · rename_i ek
      subst ek
      simp only [apH_one]
      rw [← h.L k hk]; rfl
    · exact h.L k hk
  · intro k hk hv
    have := h.K k hk hv
    unfold gSt
    split
    · rename_i ek
      subst ek
      simp only
      rw [tk (h.fp k hk).2]; exact this
    · exact this
  · intro k hk
    unfold gSt
    split
    · have := h.fp l hl
      simp only [List.length_append, List.length_singleton]; omega
    · exact h.fp k hk
  · intro k hk
    have := h.fi k hk
    unfold gSt
    split
    · rename_i ek
      subst ek
      simp only
      rw [tk (by have := h.fp k hk; omega)]; exact this
    · exact this
  · intro z hz
    have hz' := h.zs z hz
    refine ⟨hz'.wl, hz'.fl, ?_, ?_, ?_⟩
    · intro k hk; have := hz'.s k hk; unfold gSt; split
      · rename_i ek; subst ek; simp only [List.length_append, List.length_singleton]; omega
      · exact this
    · intro k hk; have := hz'.w k hk; unfold gSt; split
      · rename_i ek; subst ek; simp only; rw [tk (hz'.s k hk)]; exact this
      · exact this
    · intro k hk; have := hz'.m k hk; unfold gSt; split
      · rename_i ek; subst ek; exact this
      · exact this
  · intro c j hc hj
    have := h.pd c j hc hj
    unfold gSt
    by_cases ej : j = l
    · subst ej; simp only [if_pos]; exact this
    · simp only [if_neg ej]; exact this
theorem KI.push (ok : S.Ok n m N) (h : KI n m S g fi Z) {l : Nat} (hl : l < n) : KI n m (S.push l) (gPu g l) fi Z := by
  have f1 : Fit (l * 8) 8 S.ls.length := by have := ok.ls; unfold Fit; omega
  have f2 : Fit (l * 8) 8 S.ks.length := by have := ok.ks; unfold Fit; omega
  have hH : ∀ k, (gPu g l k).H = (g k).H := fun k => by unfold gPu; split <;> simp_all
  have hB : ∀ k, (gPu g l k).B = (g k).B := fun k => by unfold gPu; split <;> simp_all
  have hM : ∀ k, (gPu g l k).M = (g k).M := fun k => by unfold gPu; split <;> simp_all
  have hf : ∀ k, (gPu g l k).f = (g k).f := fun k => by unfold gPu; split <;> simp_all
  have hp : ∀ k, (gPu g l k).p = if k = l then (g l).H.length else (g k).p := fun k => by unfold gPu; split <;> simp_all
  have hks : ∀ k, ln (S.push l).ks k = if k = l ∧ S.vol ≤ l then ln S.ls l else ln S.ks k := fun k => by
    unfold Bs.push
    simp only
    by_cases hv : S.vol ≤ l
    · rw [if_pos hv]
      by_cases ek : k = l
      · subst ek; rw [if_pos ⟨rfl, hv⟩, ln_put_same _ _ _ f2 (ln_length _ _ f1)]
      · rw [if_neg (fun x => ek x.1), ln_put_other _ _ _ _ f2 (ln_length _ _ f1) (Ne.symm ek)]
    · rw [if_neg hv, if_neg (fun x => hv x.2)]
  refine ⟨?_, ?_, ?_, ?_, ?_, ?_, h.fl, ?_, ?_, h.nd, ?_⟩
  · intro k hk hv
    have hv' : k < S.vol := hv
    rw [hks, if_neg (by omega)]
    exact h.v0 k hk hv'
  · intro k hk; rw [hB]; exact h.b8 k hk
  · intro k hk; rw [hH]; exact h.wo k hk
  · intro k hk; rw [hB, hH]; exact h.L k hk
  · intro k hk hv
    have hv' : S.vol ≤ k := hv
    rw [hks, hB, hH, hp]
    by_cases ek : k = l
    · subst ek
      rw [if_pos ⟨rfl, hv'⟩, if_pos rfl, List.take_length]
      exact h.L k hk
    · rw [if_neg (fun x => ek x.1), if_neg ek]
      exact h.K k hk hv'
  · intro k hk
    have := h.fp k hk
    rw [hH, hf, hp]
    split
    · rename_i ek; subst ek; omega
    · exact this
  · intro k hk; rw [hB, hH, hf]; exact h.fi k hk
  · intro z hz
    have hz' := h.zs z hz
    exact ⟨hz'.wl, hz'.fl, fun k hk => by rw [hH]; exact hz'.s k hk, fun k hk => by rw [hB, hH]; exact hz'.w k hk, fun k hk => by rw [hM]; exact hz'.m k hk⟩
  · intro c j hc hj
    have h1 := h.pd c j hc hj
    have hps : (S.push l).ps.getD j 0 = if j = l then S.ps.getD l 0 + 1 else S.ps.getD j 0 := by
      unfold Bs.push
      simp only [List.getD_eq_getElem?_getD]
      by_cases ej : j = l
      · subst ej; rw [if_pos rfl, List.getElem?_set_self (by rw [ok.ps]; exact hj)]; rfl
      · rw [if_neg ej, List.getElem?_set_ne (Ne.symm ej)]
    rw [hps, hp]
    refine All2.imp (show All2 _ (sentOf (S.core c) j) _ from h1) fun P z hz hR => ?_
    by_cases ej : j = l
    · subst ej
      rw [if_pos rfl, if_pos rfl]
      exact ⟨by omega, fun _ => (h.zs z (List.mem_filter.1 hz).1).s j hj⟩
    · rw [if_neg ej, if_neg ej]
      exact hR
theorem KI.fail (h : KI n m S g fi Z) (ok : S.Ok n m N) : KI n m S.fail (gFa g S.ks) S.ks [] := by
  have l8 : ∀ k, k < n → (ln S.ks k).length = 8 := fun k hk => ln_length _ _ (by have := ok.ks; unfold Fit; omega)
  refine ⟨h.v0, fun k hk => l8 k hk, fun k hk e he => by simp [gFa] at he, fun k hk => rfl, fun k hk _ => rfl, fun k hk => ⟨Nat.le_refl _, Nat.le_refl _⟩, ok.ks, fun k hk => rfl, fun z hz => by simp at hz, ?_, ?_⟩
  · intro c hc; rw [fail_core]; simp [bcZ]
  · intro c j hc hj; rw [fail_core]; exact trivial
theorem KI.send (h : KI n m S g fi Z) (ok : S.Ok n m N) {c l : Nat} (hc : c < m) (hl : l < n) {c' : Bc} (ht : c'.tm = (S.core c).tm) {e : Ev} (he : e.co = c) (hel : e.li = l) {fs : List Int} (hfl : fs.length = n) (hfs : ∀ k, k < n → fs[k]? = some ((g k).M + (g k).H.length)) :
    KI n m (S.setC c (c'.sendE l (S.ps.getD l 0))) g fi (Z ++ [⟨e, fun k => (g k).H.length, S.ls, fs⟩]) := by
  have cs : ∀ j, (S.setC c (c'.sendE l (S.ps.getD l 0))).core j = if j = c then c'.sendE l (S.ps.getD l 0) else S.core j := fun j => core_setC (by rw [ok.cs]; exact hc) _ j
  refine ⟨h.v0, h.b8, h.wo, h.L, h.K, h.fp, h.fl, h.fi, ?_, ?_, ?_⟩
  · intro z hz
    rcases List.mem_append.1 hz with hz | hz
    · exact h.zs z hz
    · rw [List.mem_singleton] at hz
      subst hz
      exact ⟨ok.ls, hfl, fun k hk => Nat.le_refl _, fun k hk => by simp only [List.take_length]; exact h.L k hk, hfs⟩
  · intro j hj
    rw [cs]
    split
    · show ((putA _ _ c'.tm).map (·.1)).Nodup
      rw [ht]; exact keys_put (h.nd c hc)
    · exact h.nd j hj
  · intro j k hj hk
    have h1 := h.pd j k hj hk
    rw [cs, List.filter_append]
    show All2 (fun (P : Int) (z : Snt) => P ≤ S.ps.getD k 0 ∧ (P < S.ps.getD k 0 → z.s k ≤ (g k).p)) _ _
    by_cases ej : j = c
    · subst ej
      rw [if_pos rfl, sent_send]
      have hs : ∀ x, sentOf c' x = sentOf (S.core j) x := fun x => by unfold sentOf; rw [ht]
      rw [hs, hs]
      by_cases ek : k = l
      · subst ek
        rw [if_pos rfl, List.filter_cons_of_pos (by simp [Snt.mt, he, hel])]
        exact All2.snoc ⟨Int.le_refl _, fun x => by omega⟩ h1
      · rw [if_neg (by omega), List.filter_cons_of_neg (by simp [Snt.mt, he, hel]; omega)]
        simpa using h1
    · rw [if_neg ej, List.filter_cons_of_neg (by simp [Snt.mt, he, hel]; omega)]
      simpa using h1
/-- The first pending one of that core and that line is answered. -/
theorem filter_off {c l : Int} {A B : List Snt} {z : Snt} (hA : ∀ x ∈ A, x.mt c l = false) (hz : z.mt c l = true) (hc : 0 ≤ c) (c' l' : Int) (hc' : 0 ≤ c') :
    (A ++ z.off :: B).filter (Snt.mt c' l') = if c' = c ∧ l' = l then ((A ++ z :: B).filter (Snt.mt c l)).tail else (A ++ z :: B).filter (Snt.mt c' l') := by
  have hm1 : ¬ ((-1 : Int) = c') := by omega
  have ho : ∀ j, z.off.mt c' j = false := fun j => by simp [Snt.mt, Snt.off, hm1]
  have hA0 : A.filter (Snt.mt c l) = [] := List.filter_eq_nil_iff.2 fun x hx => by rw [hA x hx]; decide
  rw [List.filter_append, List.filter_append, List.filter_append, List.filter_cons_of_neg (by rw [ho]; decide)]
  split
  · rename_i h
    obtain ⟨rfl, rfl⟩ := h
    rw [hA0, List.filter_cons_of_pos hz]; rfl
  · rename_i h
    have : z.mt c' l' = false := by
      simp only [Snt.mt, Bool.and_eq_true, decide_eq_true_eq] at hz
      simp only [Snt.mt, Bool.and_eq_false_iff, decide_eq_false_iff_not]
      obtain ⟨h1, h2⟩ := hz
      rw [h1, h2]
      by_cases e1 : c = c'
      · exact .inr (fun e2 => h ⟨e1.symm, e2.symm⟩)
      · exact .inl e1
    rw [List.filter_cons_of_neg (a := z) (by rw [this]; decide)]
theorem KI.answer (h : KI n m S g fi Z) (ok : S.Ok n m N) {c l : Nat} (hc : c < m) (hl : l < n) (h0 : (sentOf (S.core c) l).length ≠ 0) (hne : (sentOf (S.core c) l).headD 0 ≠ S.ps.getD l 0) {A B : List Snt} {z : Snt} (hZ : Z = A ++ z :: B) (hA : ∀ x ∈ A, x.mt c l = false) (hz : z.mt c l = true) :
    KI n m (S.setC c ((S.core c).ansE l)) (if (g l).f ≤ z.s l then gFl g l (z.s l) else g) (if (g l).f ≤ z.s l then lnPut fi l (ln z.ws l) else fi) (A ++ z.off :: B) := by
  have cs : ∀ j, (S.setC c ((S.core c).ansE l)).core j = if j = c then (S.core c).ansE l else S.core j := fun j => core_setC (by rw [ok.cs]; exact hc) _ j
  have hzo := h.zs z (by rw [hZ]; simp)
  have hA0 : A.filter (Snt.mt c l) = [] := List.filter_eq_nil_iff.2 fun x hx => by rw [hA x hx]; decide
  have hsp : z.s l ≤ (g l).p := by
    have h1 := h.pd c l hc hl
    rw [hZ, List.filter_append, hA0, List.filter_cons_of_pos hz, List.nil_append] at h1
    cases e : sentOf (S.core c) l with
    | nil => rw [e] at h0; exact absurd rfl h0
    | cons P r =>
      rw [e] at h1 hne
      have h2 := h1.1
      have h3 : P ≠ S.ps.getD l 0 := hne
      exact h2.2 (by have := h2.1; omega)
  have base : KI n m (S.setC c ((S.core c).ansE l)) g fi (A ++ z.off :: B) := by
    refine ⟨h.v0, h.b8, h.wo, h.L, h.K, h.fp, h.fl, h.fi, ?_, ?_, ?_⟩
    · intro y hy
      rcases List.mem_append.1 hy with hy | hy
      · exact h.zs y (by rw [hZ]; exact List.mem_append_left _ hy)
      · rcases List.mem_cons.1 hy with rfl | hy
        · exact ⟨hzo.wl, hzo.fl, hzo.s, hzo.w, hzo.m⟩
        · exact h.zs y (by rw [hZ]; simp [hy])
    · intro j hj; rw [cs]; split
      · exact keys_ans (h.nd c hc) _
      · exact h.nd j hj
    · intro j k hj hk
      have h1 := h.pd j k hj hk
      rw [cs, filter_off hA hz (by omega) _ _ (by omega), ← hZ]
      show All2 (fun (P : Int) (z : Snt) => P ≤ S.ps.getD k 0 ∧ (P < S.ps.getD k 0 → z.s k ≤ (g k).p)) _ _
      by_cases ej : j = c
      · subst ej
        rw [if_pos rfl, sent_ans (h.nd j hj)]
        by_cases ek : k = l
        · subst ek
          rw [if_pos rfl, if_pos ⟨rfl, rfl⟩]
          rw [hZ, List.filter_append, hA0, List.filter_cons_of_pos hz, List.nil_append] at h1 ⊢
          cases e : sentOf (S.core j) k with
          | nil => rw [e] at h0; exact absurd rfl h0
          | cons P r => rw [e] at h1; exact h1.2
        · rw [if_neg (by omega), if_neg (by omega)]; exact h1
      · rw [if_neg ej, if_neg (by omega)]; exact h1
  split
  rotate_left
  · exact base
  · rename_i hf
    have f1 : Fit (l * 8) 8 fi.length := by have := h.fl; unfold Fit; omega
    have f2 : Fit (l * 8) 8 z.ws.length := by have := hzo.wl; unfold Fit; omega
    have hH : ∀ k, (gFl g l (z.s l) k).H = (g k).H := fun k => by unfold gFl; split <;> simp_all
    have hB : ∀ k, (gFl g l (z.s l) k).B = (g k).B := fun k => by unfold gFl; split <;> simp_all
    have hM : ∀ k, (gFl g l (z.s l) k).M = (g k).M := fun k => by unfold gFl; split <;> simp_all
    have hp : ∀ k, (gFl g l (z.s l) k).p = (g k).p := fun k => by unfold gFl; split <;> simp_all
    have hff : ∀ k, (gFl g l (z.s l) k).f = if k = l then z.s l else (g k).f := fun k => by unfold gFl; split <;> simp_all
    refine ⟨base.v0, fun k hk => by rw [hB]; exact base.b8 k hk, fun k hk => by rw [hH]; exact base.wo k hk, fun k hk => by rw [hB, hH]; exact base.L k hk, fun k hk hv => by rw [hB, hH, hp]; exact base.K k hk hv, ?_, ?_, ?_, ?_, base.nd, ?_⟩
    · intro k hk
      have := h.fp k hk
      rw [hH, hp, hff]
      split
      · rename_i ek; subst ek; omega
      · exact this
    · rw [lnPut_length _ _ _ f1 (ln_length _ _ f2), h.fl]
    · intro k hk
      rw [hB, hH, hff]
      by_cases ek : k = l
      · subst ek
        rw [if_pos rfl, ln_put_same _ _ _ f1 (ln_length _ _ f2)]
        exact hzo.w k hk
      · rw [if_neg ek, ln_put_other _ _ _ _ f1 (ln_length _ _ f2) (Ne.symm ek)]
        exact h.fi k hk
    · intro y hy
      have hy' := base.zs y hy
      exact ⟨hy'.wl, hy'.fl, fun k hk => by rw [hH]; exact hy'.s k hk, fun k hk => by rw [hB, hH]; exact hy'.w k hk, fun k hk => by rw [hM]; exact hy'.m k hk⟩
    · intro j k hj hk
      have := base.pd j k hj hk
      rw [hp]; exact this
/-- There is one. -/
theorem KI.some_sent (h : KI n m S g fi Z) {c l : Nat} (hc : c < m) (hl : l < n) (h0 : (sentOf (S.core c) l).length ≠ 0) : ∃ z ∈ Z, z.mt c l = true := by
  have h1 := h.pd c l hc hl
  cases e : Z.filter (Snt.mt c l) with
  | nil =>
    rw [e] at h1
    cases e2 : sentOf (S.core c) l with
    | nil => rw [e2] at h0; exact absurd rfl h0
    | cons P r => rw [e2] at h1; exact h1.elim
  | cons z r =>
    have : z ∈ Z.filter (Snt.mt c l) := by rw [e]; simp
    exact ⟨z, (List.mem_filter.1 this).1, (List.mem_filter.1 this).2⟩
end
end Go.Proofs.Ytnocekhgabgffaa
