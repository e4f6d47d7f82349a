/- What BusKeeps holds in memory. No condition. -/
import Derived.Test.YtgpmhbkpagfjaaaBkj
import Derived.Test.YtgpmhbkpagfjaaaBwx
namespace Go.Proofs.Ytgpmhbkpagfjaaa
open Go.RowKit
set_option linter.unusedVariables false
set_option maxHeartbeats 1000000

/-! ### Slices as values -/
structure Sv where
  A : Option Addr
  n : Nat
  cap : Nat
def Sv.val (v : Sv) : Value := .slice v.A v.n v.cap
def Sv.enc (v : Sv) : List Value := [v.val]
def svZ : Sv := ⟨none, 0, 0⟩
theorem Sv.len (v : Sv) : (Sv.enc v).length = 1 := rfl
theorem Sv.one (v : Sv) : ∀ x ∈ Sv.enc v, x.oneCell' = true := by intro x hx; simp only [Sv.enc, List.mem_singleton] at hx; subst hx; rfl
/-- Slices one behind the other. -/
def svc (vs : List Sv) : Array Value := (vs.map Sv.val).toArray
theorem svc_size (vs : List Sv) : (svc vs).size = vs.length := by simp [svc]
theorem svc_get (vs : List Sv) (i : Nat) : (svc vs)[i]? = (vs[i]?).map Sv.val := by simp [svc]
theorem svc_set (vs : List Sv) (i : Nat) (v : Sv) : (svc vs).setIfInBounds i (.slice v.A v.n v.cap) = svc (vs.set i v) := by simp [svc, List.map_set, Sv.val]
/-- A slice whose block is only read. -/
def Rd (w : World) (R : List Nat) (k : Nat) (v : Sv) (xs : List Value) : Prop := Sl w k v.A v.n xs ∧ v.n ≤ v.cap ∧ (0 < v.n → ∀ a, v.A = some a → a.block ∈ R)
section
variable {w w' : World} {R R' : List Nat} {k : Nat} {v : Sv} {xs : List Value}
theorem Rd.at (h : Rd w R k v xs) (he : ∀ b ∈ R, w'.heap[b]? = w.heap[b]?) (hR : ∀ b ∈ R, b ∈ R') : Rd w' R' k v xs := by
  obtain ⟨⟨h1, h2⟩, h3, h4⟩ := h
  refine ⟨⟨h1, ?_⟩, h3, fun h0 a ha => hR _ (h4 h0 a ha)⟩
  rcases h2 with h2 | ⟨b, o, c, t, f, e1, e2, e3⟩
  · exact .inl h2
  · by_cases h0 : v.n = 0
    · exact .inl h0
    · exact .inr ⟨b, o, c, t, f, e1, (he b (h4 (by omega) _ e1)).trans e2, e3⟩
theorem Rd.nil (w : World) (R : List Nat) (k : Nat) : Rd w R k svZ [] := ⟨⟨by simp [svZ], .inl rfl⟩, Nat.le_refl _, fun h => by simp [svZ] at h⟩
end
section
variable {α : Type} {enc : α → List Value} {k : Nat} {e : TypeId} {w w' : World} {F : List Nat} {A : Option Addr} {cap : Nat} {xs : List α}
theorem Vq.at (h : Vq k e enc w F A cap xs) (he : ∀ b ∈ F, w'.heap[b]? = w.heap[b]?) : Vq k e enc w' F A cap xs := by
  rcases h with h | ⟨be, rfl, h⟩
  · exact .inl h
  · refine .inr ⟨be, rfl, ?_⟩
    rcases h with ⟨h, _⟩ | ⟨h1, h2, o, p, r, h3, h4, h5, h6⟩
    · omega
    · exact .inr ⟨h1, h2, o, p, r, h3, h4, (he be (by simp)).trans h5, h6⟩
end

/-! ### What the statement holds in memory -/
def mnOf (n : Nat) (g : Nat → Kl) : List Int := (List.range n).map fun k => (g k).M + (g k).H.length
theorem mnOf_len (n : Nat) (g : Nat → Kl) : (mnOf n g).length = n := by simp [mnOf]
theorem mnOf_get {n : Nat} (g : Nat → Kl) {k : Nat} (hk : k < n) : (mnOf n g)[k]? = some ((g k).M + (g k).H.length) := by simp [mnOf, hk]
theorem mnOf_same {n : Nat} {g g' : Nat → Kl} (h : ∀ k, (g' k).H = (g k).H ∧ (g' k).f = (g k).f ∧ (g' k).M = (g k).M) : mnOf n g' = mnOf n g := by
  unfold mnOf
  exact List.map_congr_left fun k _ => by rw [(h k).1, (h k).2.2]
theorem mnOf_store {n : Nat} (g : Nat → Kl) {l : Nat} (e : Ev) (hl : l < n) : mnOf n (gSt g l e) = (mnOf n g).set l ((g l).M + (g l).H.length + 1) := by
  apply List.ext_getElem? 
  intro k
  by_cases hk : k < n
  · rw [mnOf_get _ hk]
    by_cases e1 : k = l
    · subst e1
      rw [List.getElem?_set_self (by rw [mnOf_len]; exact hk)]
      simp only [gSt, if_pos, List.length_append, List.length_singleton]
      congr 1; omega
    · rw [List.getElem?_set_ne (Ne.symm e1), mnOf_get _ hk]
      simp only [gSt, if_neg e1]
  · rw [List.getElem?_eq_none (by rw [mnOf_len]; omega), List.getElem?_eq_none (by rw [List.length_set, mnOf_len]; omega)]
theorem mnOf_fail {n : Nat} (g : Nat → Kl) (ks : List Int) : mnOf n (gFa g ks) = mnOf n g := by
  unfold mnOf
  exact List.map_congr_left fun k _ => by simp [gFa]
/-- The events that 'since' has of line k. -/
def sinceOf (g : Nat → Kl) (k : Nat) : List Ev := (g k).H.drop (g k).f
structure KM (W w : World) (n m q : Nat) (S : Bs) (fi : List Int) (si : Nat → List Ev) (mn : List Int) (es : List Ev) (Ws Ns : List (List Int)) (bf bs bm : Nat) (As Aw Af : Option Addr) (cs cw cf : Nat) (Fs Fw Ff R : List Nat) (svs ws fr : List Sv) : Prop where
  hf : w.heap[bf]? = some (.cells (bk fi []) 42 (0, 0))
  hs : w.heap[bs]? = some (.cells (svc svs) 24 (0, 0))
  sl : svs.length = n
  sv : ∀ k v, svs[k]? = some v → Rd w R 5 v (cat Ev.enc (si k)) ∧ v.n = (si k).length
  hm : w.heap[bm]? = some (.cells (ic mn) 3 (0, 0))
  ml : mn.length = n
  he : Vq 5 38 Ev.enc w Fs As cs es
  hw : Vq 1 31 Sv.enc w Fw Aw cw ws
  wl : ws.length = Ws.length
  wv : ∀ (j : Nat) z v, Ws[j]? = some z → ws[j]? = some v → ∃ b c r, v = ⟨some ⟨b, 0, none⟩, n, c⟩ ∧ n ≤ c ∧ b ∈ R ∧ w.heap[b]? = some (.cells (bk z r) 42 (0, 0))
  hr : Vq 1 35 Sv.enc w Ff Af cf fr
  rl : fr.length = Ns.length
  rv : ∀ (j : Nat) z v, Ns[j]? = some z → fr[j]? = some v → v.n = n ∧ Rd w R 1 v (cat intEnc z)
  nd : ([bf, bs, bm] ++ (Fs ++ (Fw ++ Ff))).Nodup
  ro : ∀ z ∈ R, z ∉ [bf, bs, bm] ++ (Fs ++ (Fw ++ Ff))
  nw : ∀ z ∈ [bf, bs, bm] ++ (Fs ++ (Fw ++ Ff)), W.heap.size ≤ z
  bx : BusX n m W w q S ([bf, bs, bm] ++ (Fs ++ (Fw ++ Ff)) ++ R)
section
variable {W w w' : World} {n m q : Nat} {S T : Bs} {fi fi' : List Int} {si : Nat → List Ev} {mn : List Int} {es : List Ev} {Ws Ns : List (List Int)} {bf bs bm : Nat} {As Aw Af : Option Addr} {cs cw cf : Nat} {Fs Fw Ff R : List Nat} {svs ws fr : List Sv}
/-- The bus has moved. -/
theorem KM.moved (h : KM W w n m q S fi si mn es Ws Ns bf bs bm As Aw Af cs cw cf Fs Fw Ff R svs ws fr) (hb : BusX n m W w' q T ([bf, bs, bm] ++ (Fs ++ (Fw ++ Ff)) ++ R)) (he : ∀ z ∈ [bf, bs, bm] ++ (Fs ++ (Fw ++ Ff)) ++ R, w'.heap[z]? = w.heap[z]?) :
    KM W w' n m q T fi si mn es Ws Ns bf bs bm As Aw Af cs cw cf Fs Fw Ff R svs ws fr := by
  have eR : ∀ b ∈ R, w'.heap[b]? = w.heap[b]? := fun b hb => he b (List.mem_append_right _ hb)
  refine ⟨(he bf (by simp)).trans h.hf, (he bs (by simp)).trans h.hs, h.sl, ?_, (he bm (by simp)).trans h.hm, h.ml, h.he.at (fun b hb => he b (by simp [hb])), h.hw.at (fun b hb => he b (by simp [hb])), h.wl, ?_, h.hr.at (fun b hb => he b (by simp [hb])), h.rl, ?_, h.nd, h.ro, h.nw, hb⟩
  · intro k v hv
    obtain ⟨h1, h2⟩ := h.sv k v hv
    exact ⟨h1.at eR (fun _ h => h), h2⟩
  · intro j z v hz hv
    obtain ⟨b, c, r, h1, h2, h3, h4⟩ := h.wv j z v hz hv
    exact ⟨b, c, r, h1, h2, h3, (eR b h3).trans h4⟩
  · intro j z v hz hv
    obtain ⟨h1, h2⟩ := h.rv j z v hz hv
    exact ⟨h1, h2.at eR (fun _ h => h)⟩
/-- Other blocks change. -/
theorem KM.chg (h : KM W w n m q S fi si mn es Ws Ns bf bs bm As Aw Af cs cw cf Fs Fw Ff R svs ws fr) (hc : Chg [] w w') : KM W w' n m q S fi si mn es Ws Ns bf bs bm As Aw Af cs cw cf Fs Fw Ff R svs ws fr := by
  obtain ⟨F, g1, g2, g3, g4⟩ := h.bx
  exact h.moved (h.bx.chg hc (by simp)) (fun z hz => hc.block z (g4 z hz).2 (by simp))
theorem KM.lts (h : KM W w n m q S fi si mn es Ws Ns bf bs bm As Aw Af cs cw cf Fs Fw Ff R svs ws fr) : ∀ z ∈ [bf, bs, bm] ++ (Fs ++ (Fw ++ Ff)) ++ R, z < w.heap.size := by
  obtain ⟨F, g1, g2, g3, g4⟩ := h.bx
  exact fun z hz => (g4 z hz).2
/-- More blocks that are only read. -/
theorem KM.more {ey : List Nat} (h : KM W w n m q S fi si mn es Ws Ns bf bs bm As Aw Af cs cw cf Fs Fw Ff R svs ws fr) (hc : Chg [] w w') (hy : ∀ z ∈ ey, w.heap.size ≤ z ∧ z < w'.heap.size) : KM W w' n m q S fi si mn es Ws Ns bf bs bm As Aw Af cs cw cf Fs Fw Ff (R ++ ey) svs ws fr := by
  have h' := h.chg hc
  have hold := h.lts
  refine ⟨h'.hf, h'.hs, h'.sl, fun k v hv => ?_, h'.hm, h'.ml, h'.he, h'.hw, h'.wl, fun j z v hz hv => ?_, h'.hr, h'.rl, fun j z v hz hv => ?_, h'.nd, fun z hz => ?_, h'.nw, ?_⟩
  · obtain ⟨h1, h2⟩ := h'.sv k v hv
    exact ⟨h1.at (fun _ _ => rfl) (fun _ h => List.mem_append_left _ h), h2⟩
  · obtain ⟨b, c, r, h1, h2, h3, h4⟩ := h'.wv j z v hz hv
    exact ⟨b, c, r, h1, h2, List.mem_append_left _ h3, h4⟩
  · obtain ⟨h1, h2⟩ := h'.rv j z v hz hv
    exact ⟨h1, h2.at (fun _ _ => rfl) (fun _ h => List.mem_append_left _ h)⟩
  · rcases List.mem_append.1 hz with hz | hz
    · exact h'.ro z hz
    · intro hm; have := hold z (List.mem_append_left _ hm); have := (hy z hz).1; omega
  · refine h.bx.add hc (by simp) (fun z hz => ?_)
    rw [← List.append_assoc] at hz
    rcases List.mem_append.1 hz with hz | hz
    · exact .inl hz
    · exact .inr (hy z hz)
/-- What is apart from what. -/
theorem KM.ne (h : KM W w n m q S fi si mn es Ws Ns bf bs bm As Aw Af cs cw cf Fs Fw Ff R svs ws fr) : bf ≠ bs ∧ bf ≠ bm ∧ bs ≠ bm ∧ (∀ z ∈ Fs ++ (Fw ++ Ff), z ≠ bf ∧ z ≠ bs ∧ z ≠ bm) ∧ (∀ z ∈ Fs, z ∉ Fw ∧ z ∉ Ff) ∧ (∀ z ∈ Fw, z ∉ Fs ∧ z ∉ Ff) ∧ (∀ z ∈ Ff, z ∉ Fs ∧ z ∉ Fw) ∧ (∀ z ∈ R, z ≠ bf ∧ z ≠ bs ∧ z ≠ bm ∧ z ∉ Fs ∧ z ∉ Fw ∧ z ∉ Ff) := by
  have nd := h.nd
  have ro := h.ro
  simp only [List.nodup_append, List.nodup_cons, List.mem_cons, not_or, List.mem_append, List.cons_append, List.nil_append] at nd
  refine ⟨by grind, by grind, by grind, by grind, by grind, by grind, by grind, ?_⟩
  intro z hz
  have := ro z hz
  simp only [List.mem_append, List.mem_cons, List.not_mem_nil, or_false, not_or] at this
  exact ⟨this.1.1, this.1.2.1, this.1.2.2, this.2.1, this.2.2.1, this.2.2.2⟩
/-- A cell of 'many', of 'since', a line of 'first'. -/
theorem KM.setMany (h : KM W w n m q S fi si mn es Ws Ns bf bs bm As Aw Af cs cw cf Fs Fw Ff R svs ws fr) {l : Nat} (v : Int) :
    KM W (w.setCell ⟨bm, l, none⟩ (.int .i64 v)) n m q S fi si (mn.set l v) es Ws Ns bf bs bm As Aw Af cs cw cf Fs Fw Ff R svs ws fr := by
  obtain ⟨n1, n2, n3, n4, n5, n6, n7, n8⟩ := h.ne
  have hc : Chg [bm] w (w.setCell ⟨bm, l, none⟩ (.int .i64 v)) := (Chg.refl [bm] w).setCell bm l _ (.inl (by simp))
  have ho : ∀ z, z ≠ bm → (w.setCell ⟨bm, l, none⟩ (.int .i64 v)).heap[z]? = w.heap[z]? := fun z hz => by rw [heap_setCell, if_neg hz]
  have eR : ∀ b ∈ R, (w.setCell ⟨bm, l, none⟩ (.int .i64 v)).heap[b]? = w.heap[b]? := fun b hb => ho b (n8 b hb).2.2.1
  refine ⟨(ho bf n2).trans h.hf, (ho bs n3).trans h.hs, h.sl, ?_, ?_, by simp [h.ml], h.he.at (fun b hb => ho b (n4 b (by simp [hb])).2.2), h.hw.at (fun b hb => ho b (n4 b (by simp [hb])).2.2), h.wl, ?_, h.hr.at (fun b hb => ho b (n4 b (by simp [hb])).2.2), h.rl, ?_, h.nd, h.ro, h.nw, h.bx.chg hc (fun z hz => by
    simp only [List.mem_singleton] at hz; subst hz; exact ⟨by simp, h.nw _ (by simp)⟩)⟩
  · intro k v hv
    obtain ⟨h1, h2⟩ := h.sv k v hv
    exact ⟨h1.at eR (fun _ h => h), h2⟩
  · rw [heap_setCell, if_pos rfl, h.hm, rowSet_some, ic_set]
  · intro j z v hz hv
    obtain ⟨b, c, r, h1, h2, h3, h4⟩ := h.wv j z v hz hv
    exact ⟨b, c, r, h1, h2, h3, (eR b h3).trans h4⟩
  · intro j z v hz hv
    obtain ⟨h1, h2⟩ := h.rv j z v hz hv
    exact ⟨h1, h2.at eR (fun _ h => h)⟩
theorem KM.setSince (h : KM W w n m q S fi si mn es Ws Ns bf bs bm As Aw Af cs cw cf Fs Fw Ff R svs ws fr) {l : Nat} (v : Sv) {xs : List Ev} (hv : Rd w R 5 v (cat Ev.enc xs)) (hl : v.n = xs.length) :
    KM W (w.setCell ⟨bs, l, none⟩ (.slice v.A v.n v.cap)) n m q S fi (fun k => if k = l then xs else si k) mn es Ws Ns bf bs bm As Aw Af cs cw cf Fs Fw Ff R (svs.set l v) ws fr := by
  obtain ⟨n1, n2, n3, n4, n5, n6, n7, n8⟩ := h.ne
  have hc : Chg [bs] w (w.setCell ⟨bs, l, none⟩ (.slice v.A v.n v.cap)) := (Chg.refl [bs] w).setCell bs l _ (.inl (by simp))
  have ho : ∀ z, z ≠ bs → (w.setCell ⟨bs, l, none⟩ (.slice v.A v.n v.cap)).heap[z]? = w.heap[z]? := fun z hz => by rw [heap_setCell, if_neg hz]
  have eR : ∀ b ∈ R, (w.setCell ⟨bs, l, none⟩ (.slice v.A v.n v.cap)).heap[b]? = w.heap[b]? := fun b hb => ho b (n8 b hb).2.1
  refine ⟨(ho bf n1).trans h.hf, ?_, by simp [h.sl], ?_, (ho bm n3.symm).trans h.hm, h.ml, h.he.at (fun b hb => ho b (n4 b (by simp [hb])).2.1), h.hw.at (fun b hb => ho b (n4 b (by simp [hb])).2.1), h.wl, ?_, h.hr.at (fun b hb => ho b (n4 b (by simp [hb])).2.1), h.rl, ?_, h.nd, h.ro, h.nw, h.bx.chg hc (fun z hz => by
    simp only [List.mem_singleton] at hz; subst hz; exact ⟨by simp, h.nw _ (by simp)⟩)⟩
  · rw [heap_setCell, if_pos rfl, h.hs, rowSet_some, svc_set]
  · intro k u hu
    by_cases e : k = l
    · subst e
      have hk : k < svs.length := by
        have := (List.getElem?_eq_some_iff.1 hu).1
        simpa using this
      rw [List.getElem?_set_self hk] at hu
      cases hu
      rw [if_pos rfl]
      exact ⟨hv.at eR (fun _ h => h), hl⟩
    · rw [List.getElem?_set_ne (Ne.symm e)] at hu
      rw [if_neg e]
      obtain ⟨h1, h2⟩ := h.sv k u hu
      exact ⟨h1.at eR (fun _ h => h), h2⟩
  · intro j z v hz hv
    obtain ⟨b, c, r, h1, h2, h3, h4⟩ := h.wv j z v hz hv
    exact ⟨b, c, r, h1, h2, h3, (eR b h3).trans h4⟩
  · intro j z v hz hv
    obtain ⟨h1, h2⟩ := h.rv j z v hz hv
    exact ⟨h1, h2.at eR (fun _ h => h)⟩
theorem KM.setFirst (h : KM W w n m q S fi si mn es Ws Ns bf bs bm As Aw Af cs cw cf Fs Fw Ff R svs ws fr) {l : Nat} {xs : List Int} (hx : xs.length = 8) (hl : Fit (l * 8) 8 fi.length) :
    KM W (putRow w bf (l * 8) (vs xs)) n m q S (lnPut fi l xs) si mn es Ws Ns bf bs bm As Aw Af cs cw cf Fs Fw Ff R svs ws fr := by
  obtain ⟨n1, n2, n3, n4, n5, n6, n7, n8⟩ := h.ne
  have hh : rowHas (w.heap[bf]?) (l * 8) (vs xs).size = true := by rw [h.hf, vs_size, hx]; exact rowHas_bk hl _ _
  have hc : Chg [bf] w (putRow w bf (l * 8) (vs xs)) := (Chg.refl [bf] w).putRow bf _ _ (.inl (by simp))
  have ho : ∀ z, z ≠ bf → (putRow w bf (l * 8) (vs xs)).heap[z]? = w.heap[z]? := fun z hz => by rw [heap_putRow _ _ _ _ _ hh, if_neg hz]
  have eR : ∀ b ∈ R, (putRow w bf (l * 8) (vs xs)).heap[b]? = w.heap[b]? := fun b hb => ho b (n8 b hb).1
  refine ⟨?_, (ho bs n1.symm).trans h.hs, h.sl, ?_, (ho bm n2.symm).trans h.hm, h.ml, h.he.at (fun b hb => ho b (n4 b (by simp [hb])).1), h.hw.at (fun b hb => ho b (n4 b (by simp [hb])).1), h.wl, ?_, h.hr.at (fun b hb => ho b (n4 b (by simp [hb])).1), h.rl, ?_, h.nd, h.ro, h.nw, h.bx.chg hc (fun z hz => by
    simp only [List.mem_singleton] at hz; subst hz; exact ⟨by simp, h.nw _ (by simp)⟩)⟩
  · rw [heap_putRow _ _ _ _ _ hh, if_pos rfl, h.hf, rowPut_bk (by rw [hx]; exact hl)]
  · intro k v hv
    obtain ⟨h1, h2⟩ := h.sv k v hv
    exact ⟨h1.at eR (fun _ h => h), h2⟩
  · intro j z v hz hv
    obtain ⟨b, c, r, h1, h2, h3, h4⟩ := h.wv j z v hz hv
    exact ⟨b, c, r, h1, h2, h3, (eR b h3).trans h4⟩
  · intro j z v hz hv
    obtain ⟨h1, h2⟩ := h.rv j z v hz hv
    exact ⟨h1, h2.at eR (fun _ h => h)⟩
/-- The blocks of the three lists change: what is left as it was. -/
theorem KM.lists (h : KM W w n m q S fi si mn es Ws Ns bf bs bm As Aw Af cs cw cf Fs Fw Ff R svs ws fr) {l : List Nat} (hc : Chg l w w') (hl : ∀ z ∈ l, z ∈ Fs ++ (Fw ++ Ff))
    {es' : List Ev} {Ws' Ns' : List (List Int)} {As' Aw' Af' : Option Addr} {cs' cw' cf' : Nat} {Fs' Fw' Ff' : List Nat} {ws' fr' : List Sv}
    (he : Vq 5 38 Ev.enc w' Fs' As' cs' es') (hw : Vq 1 31 Sv.enc w' Fw' Aw' cw' ws') (wl : ws'.length = Ws'.length)
    (wv : ∀ (j : Nat) z v, Ws'[j]? = some z → ws'[j]? = some v → ∃ b c r, v = ⟨some ⟨b, 0, none⟩, n, c⟩ ∧ n ≤ c ∧ b ∈ R ∧ w.heap[b]? = some (.cells (bk z r) 42 (0, 0)))
    (hr : Vq 1 35 Sv.enc w' Ff' Af' cf' fr') (rl : fr'.length = Ns'.length) (rv : ∀ (j : Nat) z v, Ns'[j]? = some z → fr'[j]? = some v → v.n = n ∧ Rd w R 1 v (cat intEnc z))
    (hs : ∀ z ∈ Fs', z ∈ Fs ∨ w.heap.size ≤ z) (hws : ∀ z ∈ Fw', z ∈ Fw ∨ w.heap.size ≤ z) (hfs : ∀ z ∈ Ff', z ∈ Ff ∨ w.heap.size ≤ z)
    (d1 : ∀ z ∈ Fs', z ∉ Fw' ∧ z ∉ Ff') (d2 : ∀ z ∈ Fw', z ∉ Ff') : KM W w' n m q S fi si mn es' Ws' Ns' bf bs bm As' Aw' Af' cs' cw' cf' Fs' Fw' Ff' R svs ws' fr' := by
  obtain ⟨n1, n2, n3, n4, n5, n6, n7, n8⟩ := h.ne
  have hold := h.lts
  have hsz := h.bx.all.size
  have ho : ∀ z, z ∈ [bf, bs, bm] ++ R → w'.heap[z]? = w.heap[z]? := fun z hz => by
    refine hc.block z (hold z ?_) (fun hzl => ?_)
    · rcases List.mem_append.1 hz with h1 | h1
      · exact List.mem_append_left _ (List.mem_append_left _ h1)
      · exact List.mem_append_right _ h1
    · have := hl z hzl
      rcases List.mem_append.1 hz with h1 | h1
      · have := n4 z this
        simp only [List.mem_cons, List.not_mem_nil, or_false] at h1
        omega
      · have := n8 z h1
        simp only [List.mem_append] at *
        grind
  have eR : ∀ b ∈ R, w'.heap[b]? = w.heap[b]? := fun b hb => ho b (List.mem_append_right _ hb)
  have hmem : ∀ z ∈ Fs' ++ (Fw' ++ Ff'), z ∈ Fs ++ (Fw ++ Ff) ∨ w.heap.size ≤ z := fun z hz => by
    simp only [List.mem_append] at *
    rcases hz with hz | hz | hz
    · rcases hs z hz with h | h <;> simp [h]
    · rcases hws z hz with h | h <;> simp [h]
    · rcases hfs z hz with h | h <;> simp [h]
  have b1 := hold bf (by simp)
  have b2 := hold bs (by simp)
  have b3 := hold bm (by simp)
  refine ⟨(ho bf (by simp)).trans h.hf, (ho bs (by simp)).trans h.hs, h.sl, ?_, (ho bm (by simp)).trans h.hm, h.ml, he, hw, wl, ?_, hr, rl, ?_, ?_, ?_, ?_, ?_⟩
  · intro k v hv
    obtain ⟨g1, g2⟩ := h.sv k v hv
    exact ⟨g1.at eR (fun _ h => h), g2⟩
  · intro j z v hz hv
    obtain ⟨b, c, r, g1, g2, g3, g4⟩ := wv j z v hz hv
    exact ⟨b, c, r, g1, g2, g3, (eR b g3).trans g4⟩
  · intro j z v hz hv
    obtain ⟨g1, g2⟩ := rv j z v hz hv
    exact ⟨g1, g2.at eR (fun _ h => h)⟩
  · have m4 : ∀ z ∈ Fs' ++ (Fw' ++ Ff'), z ≠ bf ∧ z ≠ bs ∧ z ≠ bm := fun z hz => by
      rcases hmem z hz with h | h
      · exact n4 z h
      · omega
    have i1 : (Fs' ++ (Fw' ++ Ff')).Nodup := by
      rw [List.nodup_append]
      refine ⟨he.nodup, ?_, fun a ha b hb e => ?_⟩
      · rw [List.nodup_append]
        exact ⟨hw.nodup, hr.nodup, fun a ha b hb e => d2 a ha (e ▸ hb)⟩
      · rcases List.mem_append.1 hb with hb | hb
        · exact (d1 a ha).1 (e ▸ hb)
        · exact (d1 a ha).2 (e ▸ hb)
    rw [List.nodup_append]
    refine ⟨by simp; grind, i1, fun a ha b hb e => ?_⟩
    have := m4 b hb
    simp only [List.mem_cons, List.not_mem_nil, or_false] at ha
    omega
  · intro z hz hm
    have hzo := hold z (List.mem_append_right _ hz)
    rcases List.mem_append.1 hm with hm | hm
    · exact h.ro z hz (List.mem_append_left _ hm)
    · rcases hmem z hm with h2 | h2
      · exact h.ro z hz (List.mem_append_right _ h2)
      · omega
  · intro z hz
    rcases List.mem_append.1 hz with hz | hz
    · exact h.nw z (List.mem_append_left _ hz)
    · rcases hmem z hz with h2 | h2
      · exact h.nw z (List.mem_append_right _ h2)
      · omega
  · refine h.bx.add hc (fun z hz => ⟨List.mem_append_left _ (List.mem_append_right _ (hl z hz)), h.nw z (List.mem_append_right _ (hl z hz))⟩) (fun z hz => ?_)
    have hnew : ∀ z ∈ Fs' ++ (Fw' ++ Ff'), z < w'.heap.size := fun z hz => by
      simp only [List.mem_append] at hz
      rcases hz with hz | hz | hz
      · exact (he.old z hz).lt
      · exact (hw.old z hz).lt
      · exact (hr.old z hz).lt
    rcases List.mem_append.1 hz with hz | hz
    · rcases List.mem_append.1 hz with hz | hz
      · exact .inl (List.mem_append_left _ (List.mem_append_left _ hz))
      · rcases hmem z hz with h2 | h2
        · exact .inl (List.mem_append_left _ (List.mem_append_right _ h2))
        · exact .inr ⟨h2, hnew z hz⟩
    · exact .inl (List.mem_append_right _ hz)
/-- All three are gone. -/
theorem KM.gone (h : KM W w n m q S fi si mn es Ws Ns bf bs bm As Aw Af cs cw cf Fs Fw Ff R svs ws fr) : KM W w n m q S fi si mn [] [] [] bf bs bm none none none 0 0 0 [] [] [] R svs [] [] :=
  h.lists (Chg.refl [] w) (by simp) (Vq.nil _ _ _ _) (Vq.nil _ _ _ _) rfl (by simp) (Vq.nil _ _ _ _) rfl (by simp) (by simp) (by simp) (by simp) (by simp) (by simp)
end
end Go.Proofs.Ytgpmhbkpagfjaaa
