/- What BusKeeps holds in memory grows. No condition. -/
import Derived.Test.YtgpmhbkpagfjaaaBkm
namespace Go.Proofs.Ytgpmhbkpagfjaaa
open Go.RowKit
set_option linter.unusedVariables false
set_option maxHeartbeats 1000000

def evzW : Value := .agg (evc evZ)
theorem evzW_size : evzW.cells.size = 5 := rfl
theorem evzW_one : ∀ v ∈ evzW.cells, v.oneCell' = true := by intro v hv; simp [evzW, Value.cells, evc, Ev.enc] at hv; rcases hv with rfl | rfl | rfl | rfl | rfl <;> rfl
theorem eltEv14 : Elt Try.prog 24 38 5 40 evzW Ev.enc where
  slice := Try.underlying24
  info := by kernel_rfl
  zero := evzW_size
  zone := evzW_one
  pos := by omega
  len := Ev.len
  one := Ev.one
theorem eltLs : Elt Try.prog 33 31 1 24 (.slice none 0 0) Sv.enc where
  slice := Try.underlying33
  info := by kernel_rfl
  zero := rfl
  zone := by intro v hv; simp [Value.cells] at hv; subst hv; rfl
  pos := by omega
  len := Sv.len
  one := Sv.one
theorem eltNs : Elt Try.prog 34 35 1 24 (.slice none 0 0) Sv.enc where
  slice := Try.underlying34
  info := by kernel_rfl
  zero := rfl
  zone := by intro v hv; simp [Value.cells] at hv; subst hv; rfl
  pos := by omega
  len := Sv.len
  one := Sv.one
section
variable {W w w' : World} {n m q : Nat} {S T : Bs} {fi fi' : List Int} {si : Nat → List Ev} {mn : List Int} {es : List Ev} {Ws Ns : List (List Int)} {bf bs bm : Nat} {As Aw Af : Option Addr} {cs cw cf : Nat} {Fs Fw Ff R : List Nat} {svs ws fr : List Sv}
/-- What is read only is as it was. -/
theorem KM.reads (h : KM W w n m q S fi si mn es Ws Ns bf bs bm As Aw Af cs cw cf Fs Fw Ff R svs ws fr) {l : List Nat} (hc : Chg l w w') (hl : ∀ z ∈ l, z ∈ Fs ++ (Fw ++ Ff)) : ∀ z ∈ R, w'.heap[z]? = w.heap[z]? := fun z hz =>
  hc.block z (h.lts z (List.mem_append_right _ hz)) (fun hzl => h.ro z hz (List.mem_append_right _ (hl z hzl)))
theorem one_sl {α : Type} {k : Nat} {enc : α → List Value} (hk : ∀ a, (enc a).length = k) {b : Nat} {x : α} {e : TypeId} (hb : w.heap[b]? = some (.cells (enc x).toArray e (0, 0))) : Sl w k (some ⟨b, 0, none⟩) 1 (cat enc [x]) :=
  ⟨by rw [cat_length hk]; rfl, .inr ⟨b, 0, _, e, (0, 0), rfl, hb, by rw [cat_one]; simp [hk, List.take_of_length_le]⟩⟩
theorem KM.appSent (h : KM W w n m q S fi si mn es Ws Ns bf bs bm As Aw Af cs cw cf Fs Fw Ff R svs ws fr) {b : Nat} {x : Ev} (hb : w.heap[b]? = some (.cells (evc x) 38 (0, 0))) (hn : es.length ≤ 1000) :
    ∃ (F' : List Nat) (cap' : Nat) (A' : Option Addr) (w' : World), appR Try.prog 24 24 #[.slice As es.length cs, .slice (some ⟨b, 0, none⟩) 1 1] w = .ok (.slice A' (es.length + 1) cap') w' ∧
      KM W w' n m q S fi si mn (es ++ [x]) Ws Ns bf bs bm A' Aw Af cap' cw cf F' Fw Ff R svs ws fr ∧ ∀ z ∈ R, w'.heap[z]? = w.heap[z]? := by
  obtain ⟨n1, n2, n3, n4, n5, n6, n7, n8⟩ := h.ne
  have hold := h.lts
  have hs := one_sl Ev.len (x := x) hb
  obtain ⟨F', cap', A', w', h1, h2, h3, h4⟩ := h.he.app (ty := 24) eltEv14 (old h.hf) (fun hF => (n4 bf (by simp [hF])).1 rfl) (c := 1) hs rfl (by omega) (by unfold maxLen; omega)
  have k1 : ∀ z ∈ Fw, w'.heap[z]? = w.heap[z]? := fun z hz => h4.block z (hold z (by simp [hz])) (n6 z hz).1
  have k2 : ∀ z ∈ Ff, w'.heap[z]? = w.heap[z]? := fun z hz => h4.block z (hold z (by simp [hz])) (n7 z hz).1
  refine ⟨F', cap', A', w', h1, h.lists h4 (fun z hz => by simp [hz]) h2 (h.hw.at k1) h.wl h.wv (h.hr.at k2) h.rl h.rv h3 (fun z hz => .inl hz) (fun z hz => .inl hz) (fun z hz => ?_) (fun z hz => (n6 z hz).2), h.reads h4 (fun z hz => by simp [hz])⟩
  rcases h3 z hz with hz | hz
  · exact n5 z hz
  · exact ⟨fun hm => by have := hold z (by simp [hm]); omega, fun hm => by have := hold z (by simp [hm]); omega⟩
theorem KM.appWas (h : KM W w n m q S fi si mn es Ws Ns bf bs bm As Aw Af cs cw cf Fs Fw Ff R svs ws fr) {b : Nat} {v : Sv} {xs : List Int} (hb : w.heap[b]? = some (.cells (Sv.enc v).toArray 31 (0, 0))) (hn : Ws.length ≤ 1000)
    (hv : ∃ b c r, v = ⟨some ⟨b, 0, none⟩, n, c⟩ ∧ n ≤ c ∧ b ∈ R ∧ w.heap[b]? = some (.cells (bk xs r) 42 (0, 0))) :
    ∃ (F' : List Nat) (cap' : Nat) (A' : Option Addr) (w' : World), appR Try.prog 33 33 #[.slice Aw Ws.length cw, .slice (some ⟨b, 0, none⟩) 1 1] w = .ok (.slice A' (Ws.length + 1) cap') w' ∧
      KM W w' n m q S fi si mn es (Ws ++ [xs]) Ns bf bs bm As A' Af cs cap' cf Fs F' Ff R svs (ws ++ [v]) fr ∧ ∀ z ∈ R, w'.heap[z]? = w.heap[z]? := by
  obtain ⟨n1, n2, n3, n4, n5, n6, n7, n8⟩ := h.ne
  have hold := h.lts
  have hs := one_sl Sv.len (x := v) hb
  have hwl := h.wl
  obtain ⟨F', cap', A', w', h1, h2, h3, h4⟩ := h.hw.app (ty := 33) eltLs (old h.hf) (fun hF => (n4 bf (by simp [hF])).1 rfl) (c := 1) hs rfl (by omega) (by unfold maxLen; omega)
  rw [hwl] at h1
  have k1 : ∀ z ∈ Fs, w'.heap[z]? = w.heap[z]? := fun z hz => h4.block z (hold z (by simp [hz])) (n5 z hz).1
  have k2 : ∀ z ∈ Ff, w'.heap[z]? = w.heap[z]? := fun z hz => h4.block z (hold z (by simp [hz])) (n7 z hz).2
  refine ⟨F', cap', A', w', h1, h.lists h4 (fun z hz => by simp [hz]) (h.he.at k1) h2 (by simp [hwl]) (fun j z u hz hu => ?_) (h.hr.at k2) h.rl h.rv (fun z hz => .inl hz) h3 (fun z hz => .inl hz) (fun z hz => ⟨fun hm => ?_, (n5 z hz).2⟩) (fun z hz => ?_), h.reads h4 (fun z hz => by simp [hz])⟩
  · by_cases hj : j < Ws.length
    · rw [List.getElem?_append_left hj] at hz
      rw [List.getElem?_append_left (by omega)] at hu
      exact h.wv j z u hz hu
    · have hj2 : j = Ws.length := by
        have := (List.getElem?_eq_some_iff.1 hz).1
        simp at this; omega
      subst hj2
      rw [List.getElem?_concat_length] at hz
      rw [← hwl, List.getElem?_concat_length] at hu
      cases hz; cases hu
      exact hv
  · rcases h3 z hm with h5 | h5
    · exact (n5 z hz).1 h5
    · have := hold z (by simp [hz]); omega
  · rcases h3 z hz with hz | hz
    · exact (n6 z hz).2
    · exact fun hm => by have := hold z (by simp [hm]); omega
theorem KM.appFrom (h : KM W w n m q S fi si mn es Ws Ns bf bs bm As Aw Af cs cw cf Fs Fw Ff R svs ws fr) {b : Nat} {v : Sv} {xs : List Int} (hb : w.heap[b]? = some (.cells (Sv.enc v).toArray 35 (0, 0))) (hn : Ns.length ≤ 1000)
    (hv : v.n = n ∧ Rd w R 1 v (cat intEnc xs)) :
    ∃ (F' : List Nat) (cap' : Nat) (A' : Option Addr) (w' : World), appR Try.prog 34 34 #[.slice Af Ns.length cf, .slice (some ⟨b, 0, none⟩) 1 1] w = .ok (.slice A' (Ns.length + 1) cap') w' ∧
      KM W w' n m q S fi si mn es Ws (Ns ++ [xs]) bf bs bm As Aw A' cs cw cap' Fs Fw F' R svs ws (fr ++ [v]) ∧ ∀ z ∈ R, w'.heap[z]? = w.heap[z]? := by
  obtain ⟨n1, n2, n3, n4, n5, n6, n7, n8⟩ := h.ne
  have hold := h.lts
  have hs := one_sl Sv.len (x := v) hb
  have hwl := h.rl
  obtain ⟨F', cap', A', w', h1, h2, h3, h4⟩ := h.hr.app (ty := 34) eltNs (old h.hf) (fun hF => (n4 bf (by simp [hF])).1 rfl) (c := 1) hs rfl (by omega) (by unfold maxLen; omega)
  rw [hwl] at h1
  have k1 : ∀ z ∈ Fs, w'.heap[z]? = w.heap[z]? := fun z hz => h4.block z (hold z (by simp [hz])) (n5 z hz).2
  have k2 : ∀ z ∈ Fw, w'.heap[z]? = w.heap[z]? := fun z hz => h4.block z (hold z (by simp [hz])) (n6 z hz).2
  refine ⟨F', cap', A', w', h1, h.lists h4 (fun z hz => by simp [hz]) (h.he.at k1) (h.hw.at k2) h.wl h.wv h2 (by simp [hwl]) (fun j z u hz hu => ?_) (fun z hz => .inl hz) (fun z hz => .inl hz) h3 (fun z hz => ⟨(n5 z hz).1, fun hm => ?_⟩) (fun z hz hm => ?_), h.reads h4 (fun z hz => by simp [hz])⟩
  · by_cases hj : j < Ns.length
    · rw [List.getElem?_append_left hj] at hz
      rw [List.getElem?_append_left (by omega)] at hu
      exact h.rv j z u hz hu
    · have hj2 : j = Ns.length := by
        have := (List.getElem?_eq_some_iff.1 hz).1
        simp at this; omega
      subst hj2
      rw [List.getElem?_concat_length] at hz
      rw [← hwl, List.getElem?_concat_length] at hu
      cases hz; cases hu
      exact hv
  · rcases h3 z hm with h5 | h5
    · exact (n5 z hz).2 h5
    · have := hold z (by simp [hz]); omega
  · rcases h3 z hm with h5 | h5
    · exact (n6 z hz).2 h5
    · have := hold z (by simp [hz]); omega
end
/-! ### Copies -/
section
variable {α : Type} {enc : α → List Value} {k bytes : Nat} {P : Program} {t ty e : TypeId} {z : Value}
/-- 'append([]T{}, x...)', the empty row at eb. -/
theorem clone14 (E : Elt P t e k bytes z enc) {w0 w : World} {q eb : Nat} {A : Option Addr} {n c : Nat} {ys : List α} (h0 : Chg [] w0 w) (hq : Old w0 q) (hE : w.heap[eb]? = some (.cells #[] e (0, 0))) (he : w0.heap.size ≤ eb)
    (hs : Sl w k A n (cat enc ys)) (hm : ys.length = n) (hB : n * bytes ≤ 140737488355328) (h63 : n ≤ maxLen) :
    ∃ (be' cap' : Nat) (A' : Option Addr) (w' : World), appR P t ty #[.slice (some ⟨eb, 0, none⟩) 0 0, .slice A n c] w = .ok (.slice A' n cap') w' ∧ Vec k e enc w' q be' A' cap' ys ∧ w0.heap.size ≤ be' ∧ Chg [] w0 w' ∧ Chg [eb] w w' := by
  have hne : eb ≠ q := by have := hq.lt; omega
  have hv : Vec k e enc w q eb (some ⟨eb, 0, none⟩) 0 ([] : List α) := .inr ⟨hne, rfl, by simp, [], by rw [hE]; rfl, by simp⟩
  obtain ⟨be', cap', A', w', h1, h2, h3, h4, h5⟩ := hv.app (ty := ty) E (hq.chg h0) hs (c := c) hm (by simpa using hB) (by simpa using h63)
  simp only [List.length_nil, Nat.zero_add, List.nil_append] at h1 h2
  refine ⟨be', cap', A', w', h1, h2, ?_, h0.trans' h4 (by intro x hx; rw [List.mem_singleton] at hx; exact .inr (by omega)), h4⟩
  rcases h3 with h3 | h3
  · omega
  · have := h0.size; omega
/-- .. and one more behind it. -/
theorem snoc14 (E : Elt P t e k bytes z enc) {w0 w : World} {q be b : Nat} {A : Option Addr} {n cap : Nat} {ys : List α} {y : α} (h0 : Chg [] w0 w) (hq : Old w0 q) (hv : Vec k e enc w q be A cap ys) (hbe : w0.heap.size ≤ be)
    (hm : ys.length = n) (hy : w.heap[b]? = some (.cells (enc y).toArray e (0, 0))) (hB : (n + 1) * bytes ≤ 140737488355328) (h63 : n + 1 ≤ maxLen) :
    ∃ (be' cap' : Nat) (A' : Option Addr) (w' : World), appR P t ty #[.slice A n cap, .slice (some ⟨b, 0, none⟩) 1 1] w = .ok (.slice A' (n + 1) cap') w' ∧ Vec k e enc w' q be' A' cap' (ys ++ [y]) ∧ w0.heap.size ≤ be' ∧ Chg [] w0 w' := by
  subst hm
  obtain ⟨be', cap', A', w', h1, h2, h3, h4, h5⟩ := hv.app (ty := ty) E (hq.chg h0) (one_sl E.len hy) (c := 1) rfl hB h63
  refine ⟨be', cap', A', w', h1, h2, ?_, h0.trans' h4 (by intro x hx; rw [List.mem_singleton] at hx; exact .inr (by omega))⟩
  rcases h3 with h3 | h3
  · omega
  · have := h0.size; omega
theorem Vec.rd (hk : ∀ a, (enc a).length = k) {w : World} {q be : Nat} {A : Option Addr} {cap n : Nat} {ys : List α} (hv : Vec k e enc w q be A cap ys) (hn : ys.length = n) {R : List Nat} (hb : be ∈ R) : Rd w R k ⟨A, n, cap⟩ (cat enc ys) := by
  subst hn
  refine ⟨hv.sl hk, hv.le, fun h0 a ha => ?_⟩
  rcases hv with ⟨_, h, _⟩ | ⟨_, h, _⟩
  · simp only at ha; rw [h] at ha; cases ha
  · simp only at ha; rw [h] at ha; cases ha; exact hb
end
section
variable {W w w4 : World} {n m q : Nat} {S T : Bs} {fi : List Int} {si : Nat → List Ev} {mn : List Int} {es : List Ev} {Ws Ns : List (List Int)} {bf bs bm : Nat} {As Aw Af : Option Addr} {cs cw cf : Nat} {Fs Fw Ff R : List Nat} {svs ws fr : List Sv}
theorem KM.stored (h : KM W w n m q S fi si mn es Ws Ns bf bs bm As Aw Af cs cw cf Fs Fw Ff R svs ws fr) {q0 be n0 cap' l : Nat} {A' : Option Addr} {ys : List Ev} (hc : Chg [] w w4) (hv : Vec 5 38 Ev.enc w4 q0 be A' cap' ys) (hq0 : Old w4 q0) (hbe : w.heap.size ≤ be) (hn : ys.length = n0) :
    KM W (w4.setCell ⟨bs, l, none⟩ (.slice A' n0 cap')) n m q S fi (fun k => if k = l then ys else si k) mn es Ws Ns bf bs bm As Aw Af cs cw cf Fs Fw Ff (R ++ [be]) (svs.set l ⟨A', n0, cap'⟩) ws fr :=
  (h.more hc (ey := [be]) (fun z hz => by simp only [List.mem_singleton] at hz; subst hz; exact ⟨hbe, (hv.old hq0).lt⟩)).setSince (l := l) ⟨A', n0, cap'⟩ (hv.rd Ev.len hn (by simp)) hn.symm
theorem since_store {g : Nat → Kl} {l : Nat} {e : Ev} (hf : (g l).f ≤ (g l).H.length) : sinceOf (gSt g l e) = fun k => if k = l then sinceOf g l ++ [e] else sinceOf g k := by
  funext k
  unfold sinceOf gSt
  by_cases ek : k = l
  · subst ek
    simp only [if_pos]
    rw [List.drop_append_of_le_length hf]
  · simp only [if_neg ek]
end
theorem cat_int : ∀ xs : List Int, cat intEnc xs = xs.map (Value.int .i64)
  | [] => rfl
  | x :: xs => by
    have := cat_int xs
    simp only [cat, List.map_cons, List.flatten_cons] at *
    rw [this]; rfl
theorem ic_sl {w : World} {b n : Nat} {t : TypeId} {f : Nat × Nat} {xs : List Int} (h : w.heap[b]? = some (.cells (ic xs) t f)) (hn : xs.length = n) : Sl w 1 (some ⟨b, 0, none⟩) n (cat intEnc xs) := by
  subst hn
  rw [cat_int]
  exact ⟨by simp, .inr ⟨b, 0, _, t, f, rfl, h, by simp [ic, List.take_of_length_le]⟩⟩
end Go.Proofs.Ytgpmhbkpagfjaaa
