/- Acts, their bytes, rounds; strings to the walk: no walk. No condition. -/
import Derived.Test.YtapkjbefdooclaaDoorSeo
import Derived.Laws.BytesString
import Derived.Laws.IdiomStrings
import Derived.Laws.Strings3
import Derived.Laws.Concat
namespace Go.Proofs.YtapkjbefdooclaaDoor
open Go.RowKit
set_option linter.unusedVariables false
set_option maxHeartbeats 1000000

/-! ### Bytes and strings -/
/-- A string of these bytes; so many. -/
def str (l : List UInt8) : ByteArray := ⟨l.toArray⟩
def strN (l : List UInt8) : Nat := l.length
theorem str_size (l : List UInt8) : (str l).size = strN l := by simp [str, strN, ByteArray.size]
theorem str_list (s : ByteArray) : s = str s.data.toList := by obtain ⟨⟨l⟩⟩ := s; rfl
theorem str_inj {a b : List UInt8} (h : str a = str b) : a = b := by
  have := congrArg (fun s : ByteArray => s.data.toList) h
  simpa [str] using this
def byI (u : UInt8) : Int := (u.toNat : Int)
theorem byI_b (u : UInt8) : 0 ≤ byI u ∧ byI u ≤ 255 := by
  have h := u.toNat_lt
  unfold byI
  omega
theorem str_toList (l : List UInt8) : (str l).toList = l := ByteArray.toList_mk l
/-- The walk's own: a byte of a string, a piece of it, two of them. -/
def ixS (t : TypeId) (x i : Value) : Sem Value := Instr.index t x i
def ixR (P : Program) (t : TypeId) (x i : Value) (w : World) : Result Value := (Instr.index t x i).run P w
theorem index_ixS (x i : Value) : Instr.index 9 x i = ixS 9 x i := rfl
theorem run_ixS (P : Program) (t : TypeId) (x i : Value) (w : World) : (ixS t x i).run P w = ixR P t x i w := rfl
def cvS (s d : TypeId) (x : Value) : Sem Value := convert s d x
def cvR (P : Program) (s d : TypeId) (x : Value) (w : World) : Result Value := (convert s d x).run P w
theorem conv_cvS (x : Value) : convert 40 9 x = cvS 40 9 x := rfl
theorem run_cvS (P : Program) (s d : TypeId) (x : Value) (w : World) : (cvS s d x).run P w = cvR P s d x w := rfl
theorem ix_at {P : Program} {t : TypeId} (hu : P.underlying t = some .string) (l : List UInt8) (k : Nat) (u : UInt8) (h : l[k]? = some u) (w : World) : ixR P t (.string (str l)) (.int .i64 (k : Int)) w = .ok (.int .u8 (byI u)) w := by
  obtain ⟨hk, rfl⟩ := List.getElem?_eq_some_iff.1 h
  unfold ixR
  have hs : (str l).size = l.length := str_size l
  rw [run_index_string w t (str l) .i64 (k : Int) hu, dif_pos ⟨by omega, by rw [hs]; omega⟩]
  rfl
theorem sl_from {P : Program} {t : TypeId} (hu : P.underlying t = some .string) (l : List UInt8) (k : Nat) (h : k ≤ l.length) (w : World) : slR P t (.string (str l)) (some (.int .i64 (k : Int))) none none w = .ok (.string (str (l.drop k))) w := by
  unfold slR
  have hs : (str l).size = l.length := str_size l
  rw [run_slice_string_from_if w t (str l) .i64 (k : Int) hu, if_pos ⟨by omega, by rw [hs]; omega⟩, hs]
  unfold str
  rw [ByteArray.extract_mk, List.take_of_length_le (by simp)]
  rfl
theorem sl_to {P : Program} {t : TypeId} (hu : P.underlying t = some .string) (l : List UInt8) (k : Nat) (h : k ≤ l.length) (w : World) : slR P t (.string (str l)) none (some (.int .i64 (k : Int))) none w = .ok (.string (str (l.take k))) w := by
  unfold slR
  have hs : (str l).size = l.length := str_size l
  rw [run_slice_string_to_if w t (str l) .i64 (k : Int) hu, if_pos ⟨by omega, by rw [hs]; omega⟩]
  unfold str
  rw [ByteArray.extract_mk, List.drop_zero, Nat.sub_zero]
  rfl
theorem str_add (a b : List UInt8) : str a ++ str b = str (a ++ b) := ByteArray.mk_append_mk a b
/-- The cells of bytes. -/
def benc (u : UInt8) : List Value := [.int .u8 (byI u)]
theorem benc_len (u : UInt8) : (benc u).length = 1 := rfl
theorem benc_one (u : UInt8) : ∀ v ∈ benc u, v.oneCell' = true := by intro v hv; simp only [benc, List.mem_singleton] at hv; subst hv; rfl
theorem cat_benc (l : List UInt8) : cat benc l = l.map (fun u => Value.int .u8 (byI u)) := by
  induction l with
  | nil => rfl
  | cons x xs ih => rw [cat_cons, ih]; rfl
theorem cv_any {P : Program} {s d e : TypeId} (hs : P.underlying s = some (.slice e)) (he : P.underlying e = some (.int .u8)) (hd : P.underlying d = some .string) {w : World} {A : Option Addr} {n c : Nat} {l : List UInt8} (h : Sl w 1 A n (cat benc l)) (hn : l.length = n) :
    cvR P s d (.slice A n c) w = .ok (.string (str l)) w := by
  unfold cvR
  rw [run_convert_bytes_string w s d e A n c hs he hd]
  cases A with
  | none =>
    rcases h.2 with h0 | ⟨_, _, _, _, _, h0, _⟩
    · subst h0
      obtain rfl : l = [] := List.eq_nil_of_length_eq_zero hn
      rfl
    · cases h0
  | some a =>
    rcases Nat.eq_zero_or_pos n with h0 | h0
    · subst h0
      obtain rfl : l = [] := List.eq_nil_of_length_eq_zero hn
      exact run_bytesToString w a 0 c [] (by simp [loadCells, loadCellsFrom])
    · obtain ⟨b, o, ha⟩ := h.addr h0
      cases ha
      have hl : (l.map byI).length = n := by simpa using hn
      have hx : cat benc l = (l.map byI).map (Value.int .u8) := by rw [cat_benc]; simp
      have hlen := h.1
      rw [hx] at h
      have := run_loadCells_list (P := P) (w := w) ⟨b, o, none⟩ ((l.map byI).map (Value.int .u8)) h.cells
      rw [List.length_map, hl] at this
      rw [run_bytesToString w ⟨b, o, none⟩ n c (l.map byI) this]
      have hf := foldl_push_byteCells l ByteArray.empty
      have e1 : l.map byI = l.map (fun b => (b.toNat : Int)) := rfl
      rw [e1, hf]
      simp [str]

/-! ### Acts -/
structure Sact where
  kd : Int
  co : Int
  li : Int
deriving DecidableEq
def Sact.enc (a : Sact) : List Value := [.int .i64 a.kd, .int .i64 a.co, .int .i64 a.li]
def sac (a : Sact) : Array Value := (Sact.enc a).toArray
theorem Sact.len (a : Sact) : (Sact.enc a).length = 3 := rfl
theorem Sact.one (a : Sact) : ∀ v ∈ Sact.enc a, v.oneCell' = true := by
  intro v hv
  simp only [Sact.enc, List.mem_cons, List.not_mem_nil, or_false] at hv
  rcases hv with rfl | rfl | rfl <;> rfl
theorem sac_size (a : Sact) : (sac a).size = 3 := by simp [sac, Sact.enc]
theorem sac_one (a : Sact) : allOne (sac a) := allOne_list _ (List.all_eq_true.2 (Sact.one a))
theorem sac_kd (a : Sact) : (sac a)[0]? = some (.int .i64 a.kd) := rfl
theorem sac_co (a : Sact) : (sac a)[1]? = some (.int .i64 a.co) := rfl
theorem sac_li (a : Sact) : (sac a)[2]? = some (.int .i64 a.li) := rfl
theorem sac_lit (k c l : Int) : (#[.int .i64 k, .int .i64 c, .int .i64 l] : Array Value) = sac ⟨k, c, l⟩ := rfl
theorem fold_sac (C : Array Value) (a : Sact) (h : C.size = 3) : Array.foldl (fun cs y => cs.setIfInBounds y.snd y.fst) C (sac a).zipIdx 0 3 = sac a := fold_all _ _ _ (sac_size a) h
/-- How many cores, and lines, a kind has. -/
def coreK (k : Int) : Bool := decide (1 ≤ k) && decide (k ≤ 5) || k == 7
def lineK (k : Int) : Bool := k == 6 || k == 7 || k == 8 || k == 9
def kindK (k : Int) : Bool := decide (1 ≤ k) && decide (k ≤ 10)
def nCo (k : Int) : Int := if kindK k = true then (if coreK k = true then 8 else 1) else 0
def nLi (k : Int) : Int := if kindK k = true then (if lineK k = true then 64 else 1) else 0
def gdA (a : Sact) : Bool := kindK a.kd && (decide (0 ≤ a.co) && decide (a.co < nCo a.kd)) && (decide (0 ≤ a.li) && decide (a.li < nLi a.kd))
def kdL : List Value := ((List.range 11).map fun k : Nat => [Value.int .i64 (nCo k), Value.int .i64 (nLi k)]).flatten
def KTab (w : World) : Prop := ∃ t f, w.heap[0]? = some (.cells kdL.toArray t f)
theorem KTab.keep {w w' : World} {l : List Nat} (h : KTab w) (hc : Chg l w w') (h0 : 0 ∉ l) : KTab w' := by
  obtain ⟨t, f, h⟩ := h
  exact ⟨t, f, hc.keep h h0⟩
theorem KTab.old {w : World} (h : KTab w) : Old w 0 := by
  obtain ⟨t, f, h⟩ := h
  exact Go.Proofs.YtapkjbefdooclaaDoor.old h
theorem kd_row (k : Nat) (h : k < 11) : kdL.toArray[k * 2]? = some (.int .i64 (nCo k)) ∧ kdL.toArray[k * 2 + 1]? = some (.int .i64 (nLi k)) := by
  have : k = 0 ∨ k = 1 ∨ k = 2 ∨ k = 3 ∨ k = 4 ∨ k = 5 ∨ k = 6 ∨ k = 7 ∨ k = 8 ∨ k = 9 ∨ k = 10 := by omega
  rcases this with rfl | rfl | rfl | rfl | rfl | rfl | rfl | rfl | rfl | rfl | rfl <;> exact ⟨rfl, rfl⟩

/-! ### Bytes of acts, acts of bytes -/
def toB (n : Int) : UInt8 := UInt8.ofNat (n % 256).toNat
theorem toB_byI (n : Int) (h0 : 0 ≤ n) (h1 : n ≤ 255) : byI (toB n) = n := by
  unfold byI toB
  have : n % 256 = n := Int.emod_eq_of_lt h0 (by omega)
  rw [this]
  have h2 : (UInt8.ofNat n.toNat).toNat = n.toNat % 256 := by simp
  rw [h2]
  omega
theorem byI_toB (u : UInt8) : toB (byI u) = u := by
  unfold byI toB
  have := u.toNat_lt
  rw [show ((u.toNat : Int) % 256).toNat = u.toNat by omega]
  exact UInt8.ofNat_toNat
def byt (a : Sact) : List UInt8 := [toB a.kd, toB a.co, toB a.li]
def encB (l : List Sact) : List UInt8 := (l.map byt).flatten
def allG (l : List Sact) : Bool := l.all gdA
def encS (l : List Sact) : List UInt8 := if allG l = true then encB l else []
def encE (l : List Sact) : Int := if allG l = true then 0 else 11
def act3 (a b c : UInt8) : Sact := ⟨byI a, byI b, byI c⟩
def one3 (a b c : UInt8) : List Sact := if gdA (act3 a b c) = true then [act3 a b c] else []
def decL : List UInt8 → List Sact
  | a :: b :: c :: r => one3 a b c ++ decL r
  | _ => []
theorem encB_nil : encB [] = [] := rfl
theorem encB_snoc (l : List Sact) (a : Sact) : encB (l ++ [a]) = encB l ++ byt a := by simp [encB]
theorem encB_length (l : List Sact) : (encB l).length = 3 * l.length := by
  induction l with
  | nil => rfl
  | cons a l ih => simp only [encB, List.map_cons, List.flatten_cons, List.length_append, List.length_cons] at ih ⊢; rw [ih]; simp [byt]; omega
theorem gdA_small {a : Sact} (h : gdA a = true) : (1 ≤ a.kd ∧ a.kd ≤ 10) ∧ (0 ≤ a.co ∧ a.co ≤ 7) ∧ 0 ≤ a.li ∧ a.li ≤ 63 := by
  simp only [gdA, kindK, nCo, nLi, Bool.and_eq_true, decide_eq_true_eq] at h
  obtain ⟨⟨h1, h2, h3⟩, h4, h5⟩ := h
  refine ⟨h1, ⟨h2, ?_⟩, h4, ?_⟩
  · split at h3
    · split at h3 <;> omega
    · omega
  · split at h5
    · split at h5 <;> omega
    · omega
theorem act3_byt {a : Sact} (h : gdA a = true) : act3 (toB a.kd) (toB a.co) (toB a.li) = a := by
  obtain ⟨h1, h2, h3⟩ := gdA_small h
  unfold act3
  rw [toB_byI _ (by omega) (by omega), toB_byI _ (by omega) (by omega), toB_byI _ (by omega) (by omega)]
theorem decL_enc : ∀ {l : List Sact}, allG l = true → decL (encB l) = l
  | [], _ => rfl
  | a :: l, h => by
    simp only [allG, List.all_cons, Bool.and_eq_true] at h
    have ih := decL_enc (l := l) (by simpa [allG] using h.2)
    show decL (toB a.kd :: toB a.co :: toB a.li :: encB l) = a :: l
    rw [decL, one3, act3_byt h.1, if_pos h.1, ih]; rfl
theorem decL_good : ∀ (b : List UInt8), allG (decL b) = true
  | a :: b :: c :: r => by
    rw [decL]
    have ih := decL_good r
    unfold allG at ih ⊢
    rw [List.all_append, ih, Bool.and_true]
    unfold one3
    split
    · rename_i h; simp [h]
    · rfl
  | [] => rfl
  | [_] => rfl
  | [_, _] => rfl
theorem decL_len : ∀ (b : List UInt8), 3 * (decL b).length ≤ b.length
  | a :: b :: c :: r => by
    rw [decL]
    have ih := decL_len r
    have : (one3 a b c).length ≤ 1 := by unfold one3; split <;> simp
    simp only [List.length_append, List.length_cons]
    omega
  | [] => by simp [decL]
  | [_] => by simp [decL]
  | [_, _] => by simp [decL]
theorem decL_short {b : List UInt8} (h : b.length < 3) : decL b = [] := by
  match b, h with
  | [], _ => rfl
  | [_], _ => rfl
  | [_, _], _ => rfl
  | _ :: _ :: _ :: _, h => simp at h; omega
theorem decL_append : ∀ (a b : List UInt8), a.length % 3 = 0 → decL (a ++ b) = decL a ++ decL b
  | x :: y :: z :: r, b, h => by
    have := decL_append r b (by simp at h; omega)
    simp only [List.cons_append]
    rw [decL, decL, this, List.append_assoc]
  | [], _, _ => rfl
  | [_], _, h => by simp at h
  | [_, _], _, h => by simp at h

/-! ### A round -/
def rndAt (c n : Nat) : Sact := if n < 5 * c then ⟨(n % 5 : Nat) + 1, (n / 5 : Nat), 0⟩ else ⟨6 + 3 * ((n - 5 * c) % 2 : Nat), 0, ((n - 5 * c) / 2 : Nat)⟩
def rnds (c n : Nat) : List Sact := (List.range n).map (rndAt c)
def okR (c l : Int) : Bool := decide (1 ≤ c) && decide (c ≤ 8) && (decide (1 ≤ l) && decide (l ≤ 64))
def rndL (c l : Int) : List Sact := if okR c l = true then rnds c.toNat (5 * c.toNat + 2 * l.toNat) else []
theorem rnds_length (c n : Nat) : (rnds c n).length = n := by simp [rnds]
theorem rnds_succ (c n : Nat) : rnds c (n + 1) = rnds c n ++ [rndAt c n] := by simp [rnds, List.range_succ]
theorem rnd_core (c i k : Nat) (hi : i < c) (hk : k < 5) : rndAt c (5 * i + k) = ⟨(k : Int) + 1, i, 0⟩ := by
  unfold rndAt
  rw [if_pos (by omega)]
  have h1 : (5 * i + k) % 5 = k := by omega
  have h2 : (5 * i + k) / 5 = i := by omega
  rw [h1, h2]
theorem rnd_push (c j : Nat) : rndAt c (5 * c + 2 * j) = ⟨6, 0, j⟩ := by
  unfold rndAt
  rw [if_neg (by omega)]
  have h1 : (5 * c + 2 * j - 5 * c) % 2 = 0 := by omega
  have h2 : (5 * c + 2 * j - 5 * c) / 2 = j := by omega
  rw [h1, h2]; rfl
theorem rnd_mem (c j : Nat) : rndAt c (5 * c + 2 * j + 1) = ⟨9, 0, j⟩ := by
  unfold rndAt
  rw [if_neg (by omega)]
  have h1 : (5 * c + 2 * j + 1 - 5 * c) % 2 = 1 := by omega
  have h2 : (5 * c + 2 * j + 1 - 5 * c) / 2 = j := by omega
  rw [h1, h2]; rfl
theorem rnds_two (c j : Nat) : rnds c (5 * c + 2 * (j + 1)) = rnds c (5 * c + 2 * j) ++ [⟨6, 0, j⟩, ⟨9, 0, j⟩] := by
  rw [show 5 * c + 2 * (j + 1) = 5 * c + 2 * j + 1 + 1 by omega, rnds_succ, rnds_succ, rnd_push, rnd_mem, List.append_assoc]; rfl
theorem rnd_get {c n i : Nat} {a : Sact} (h : (rnds c n)[i]? = some a) : a = rndAt c i := by
  obtain ⟨hi, rfl⟩ := List.getElem?_eq_some_iff.1 h
  simp [rnds]
theorem rnd_good {c l i : Nat} (hc : c ≤ 8) (hl : l ≤ 64) (hi : i < 5 * c + 2 * l) : gdA (rndAt c i) = true := by
  unfold rndAt
  split
  · have h0 : i % 5 < 5 := Nat.mod_lt _ (by omega)
    have h1 : i / 5 < 8 := by omega
    have e : i % 5 = 0 ∨ i % 5 = 1 ∨ i % 5 = 2 ∨ i % 5 = 3 ∨ i % 5 = 4 := by omega
    rcases e with e | e | e | e | e <;> rw [e] <;> simp [gdA, kindK, nCo, nLi, coreK, lineK] <;> omega
  · have h1 : (i - 5 * c) / 2 < 64 := by omega
    have e : (i - 5 * c) % 2 = 0 ∨ (i - 5 * c) % 2 = 1 := by omega
    rcases e with e | e <;> rw [e] <;> simp [gdA, kindK, nCo, nLi, coreK, lineK] <;> omega
theorem rnd_apart {c i k : Nat} (h : k < i) : rndAt c k ≠ rndAt c i := by
  unfold rndAt
  intro e
  split at e <;> split at e
  · simp only [Sact.mk.injEq] at e; omega
  · simp only [Sact.mk.injEq] at e; omega
  · omega
  · simp only [Sact.mk.injEq] at e; omega
theorem sl_new (w : World) (c : Array Value) (t : TypeId) (size n : Nat) (xs : List Value) (hc : c.toList = xs) (hn : xs.length = n * size) : Sl (w.alloc (.cells c t)) size (some ⟨w.heap.size, 0, none⟩) n xs :=
  ⟨hn, .inr ⟨w.heap.size, 0, c, t, (0, 0), rfl, by rw [heap_alloc, Array.getElem?_eq_none (Nat.le_refl _)]; simp, by rw [List.drop_zero, hc, List.take_of_length_le (by omega)]⟩⟩
theorem sac_ne (a : Sact) : (sac a = #[]) = False := by simp [sac, Sact.enc]
theorem sac_set0 (a : Sact) (v : Int) : (sac a).setIfInBounds 0 (.int .i64 v) = sac ⟨v, a.co, a.li⟩ := rfl
theorem sac_set1 (a : Sact) (v : Int) : (sac a).setIfInBounds 1 (.int .i64 v) = sac ⟨a.kd, v, a.li⟩ := rfl
theorem sac_set2 (a : Sact) (v : Int) : (sac a).setIfInBounds 2 (.int .i64 v) = sac ⟨a.kd, a.co, v⟩ := rfl
theorem fold_at0 (C v : Array Value) (n : Nat) (hv : v.size = n) (h : n ≤ C.size) : Array.foldl (fun cs y => cs.setIfInBounds y.snd y.fst) C v.zipIdx 0 n = (splice C.toList 0 v.toList).toArray := by
  have := fold_put C v 0 n hv (by omega)
  simpa only [Nat.zero_add] using this
/-- A pair of acts built into a block. -/
theorem fold_sac2 (x0 x1 x2 x3 x4 x5 : Value) (a b : Sact) : Array.foldl (fun cs x => cs.setIfInBounds (3 + x.snd) x.fst) (Array.foldl (fun cs x => cs.setIfInBounds x.snd x.fst) #[x0, x1, x2, x3, x4, x5] (sac a).zipIdx 0 3) (sac b).zipIdx 0 3 = (cat Sact.enc [a, b]).toArray := by
  rw [fold_at0 _ _ 3 (sac_size a) (by simp), fold_put _ _ 3 3 (sac_size b) (by simp [splice, sac, Sact.enc])]
  rfl
end Go.Proofs.YtapkjbefdooclaaDoor
