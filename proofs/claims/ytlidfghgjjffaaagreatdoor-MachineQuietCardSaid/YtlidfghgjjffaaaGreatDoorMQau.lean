/- A statement of layer 15, with the tables of what a kind of messages may have, and of what messages make of slots, tied to the program's text: for every argument. No condition. -/
import Derived.Test.YtlidfghgjjffaaaGreatDoorMQab
import Derived.Test.YtlidfghgjjffaaaGreatDoorMQac
import Derived.Test.YtlidfghgjjffaaaGreatDoorMQat
import Derived.LaidMore
import Derived.Test.YtlidfghgjjffaaaGreatDoorMQrr
import Derived.SevenTiedAt
import Derived.Test.YtlidfghgjjffaaaGreatDoorCards
import Derived.Test.YtlidfghgjjffaaaGreatDoorTie
namespace Go.Proofs.YtlidfghgjjffaaaGreatDoor
open Go.ChangeShapes Go.WideShapes Go.ChangeAt Go.RowKit
set_option linter.unusedVariables false

def kAct15 : List Kd := [.int .i64, .int .i64, .int .i64]
theorem kinds_act15 : kinds Tryz.prog 9 44 = some kAct15 := by kernel_rfl
theorem act_cells15 {w : World} {cs : List Value} (h : AreKd w kAct15 cs) : ∃ a : Ac, cs = Ac.enc a := by
  obtain ⟨v0, c0, rfl, h0, hA⟩ := AreKd.head h
  obtain ⟨v1, c1, rfl, h1, hB⟩ := AreKd.head hA
  obtain ⟨v2, c2, rfl, h2, hC⟩ := AreKd.head hB
  obtain rfl : c2 = [] := List.eq_nil_of_length_eq_zero (by simpa using hC.1)
  simp only [IsKd] at h0 h1 h2
  obtain ⟨a, rfl, _⟩ := h0
  obtain ⟨b, rfl, _⟩ := h1
  obtain ⟨c, rfl, _⟩ := h2
  exact ⟨⟨a, b, c⟩, rfl⟩

def kSetup15 : List Kd := .int .i64 :: .int .i64 :: .int .i64 :: .int .i64 :: .int .i64 :: .int .i64 :: .int .i64 :: .slice kLine :: .slice [.slice [.int .u64]] :: .slice [.int .u64] :: []
theorem kinds_setup15 : kinds Tryz.prog 9 28 = some kSetup15 := by kernel_rfl
theorem kinds_acts15 : kinds Tryz.prog 9 29 = some [.slice kAct15] := by kernel_rfl
theorem bounds_lt {x : Int} (h : (Lit.int .u64 x).wf = true) : 0 ≤ x ∧ x < 18446744073709551616 := by
  have := bounds_u64 h
  omega
theorem len_lt {n : Nat} (h : n ≤ maxLen) : n ≤ 9223372036854775807 := Nat.le_trans h (by decide)
theorem nn_of_wf {x : Int} (h : (Lit.int .u64 x).wf = true) : 0 ≤ x := (bounds_u64 h).1
theorem lines_nn {w : World} {v : Value} (h : IsKd w (.slice kLine) v) : ∃ A n c, ∃ xs : List Int, v = .slice A n c ∧ n ≤ c ∧ c ≤ maxLen ∧ Sl w 8 A n (xs.map (Value.int .u64)) ∧ ∀ x ∈ xs, 0 ≤ x := by
  rw [IsKd] at h
  obtain ⟨A, n, c, xs, rfl, hn, hc, hs, h0, hx⟩ := h
  have hl : xs.length = n * 8 := hs.1
  obtain ⟨ns, e, hw⟩ := ints_of_cells (k := .u64) xs (fun i hi => by
    obtain ⟨u, h1, h2⟩ := hx (i / 8) (by omega) (i % 8) (by show i % 8 < 8; omega)
    have e1 : kLine[i % 8]'(by show i % 8 < 8; omega) = .int .u64 := List.getElem_replicate _
    rw [e1, IsKd] at h2
    obtain ⟨m, rfl, hw⟩ := h2
    have e2 : i / 8 * kLine.length + i % 8 = i := by show i / 8 * 8 + i % 8 = i; omega
    rw [e2] at h1
    exact ⟨m, h1, hw⟩)
  exact ⟨A, n, c, ns, rfl, hn, hc, by rw [← e]; exact hs, fun x hx => nn_of_wf (hw x hx)⟩
theorem acts_of15 {w : World} : ∀ (n : Nat) (xs : List Value), xs.length = n * 3 → (∀ i, i < n → AreKd w kAct15 ((xs.drop (i * 3)).take 3)) → ∃ l : List Ac, l.length = n ∧ xs = cat Ac.enc l
  | 0, xs, h, _ => ⟨[], rfl, List.eq_nil_of_length_eq_zero (by omega)⟩
  | n + 1, xs, h, hk => by
    obtain ⟨x, he⟩ := act_cells15 (hk 0 (by omega))
    obtain ⟨l, hl, hx⟩ := acts_of15 n (xs.drop 3) (by rw [List.length_drop]; omega) (fun i hi => by
      have := hk (i + 1) (by omega)
      rw [List.drop_drop]
      rwa [show 3 + i * 3 = (i + 1) * 3 by omega])
    refine ⟨x :: l, by simp [hl], ?_⟩
    rw [cat_cons, ← hx]
    rw [Nat.zero_mul, List.drop_zero] at he
    rw [← he, List.take_append_drop]
theorem progs_of15 {w : World} : ∀ (n : Nat) (xs : List Value), xs.length = n → (∀ i, i < n → AreKd w [.slice [.int .u64]] ((xs.drop i).take 1)) →
    ∃ (fs : List Rf) (us : List (List Int)), fs.length = n ∧ us.length = n ∧ xs = cat re fs ∧ ∀ (k : Nat) (f : Rf) (u : List Int), fs[k]? = some f → us[k]? = some u → f.n = u.length ∧ Sl w 1 f.A f.n (u.map (Value.int .u64)) ∧ ∀ x ∈ u, 0 ≤ x ∧ x < 18446744073709551616
  | 0, xs, h, _ => ⟨[], [], rfl, rfl, List.eq_nil_of_length_eq_zero h, by simp⟩
  | n + 1, xs, h, hk => by
    match xs, h with
    | v :: xs, h =>
      obtain ⟨v', c, e, hv, _⟩ := AreKd.head (hk 0 (by omega))
      simp only [List.drop_zero, List.take_succ_cons, List.take_zero, List.cons.injEq] at e
      obtain ⟨rfl, _⟩ := e
      obtain ⟨A, m, q, u, rfl, _, _, hs, hu⟩ := hv.ints
      obtain ⟨fs, us, hf, hl, hx, hp⟩ := progs_of15 n xs (by simpa using h) (fun i hi => by
        have := hk (i + 1) (by omega)
        simpa using this)
      refine ⟨⟨A, m, q⟩ :: fs, u :: us, by simp [hf], by simp [hl], by rw [cat_cons, ← hx]; rfl, fun k f u' h1 h2 => ?_⟩
      cases k with
      | zero =>
        simp only [List.getElem?_cons_zero, Option.some.injEq] at h1 h2
        subst h1; subst h2
        exact ⟨by simpa using hs.1.symm, hs, fun x hx => bounds_lt (hu x hx)⟩
      | succ k => exact hp k f u' (by simpa using h1) (by simpa using h2)
theorem setup_cells15 {w : World} {cs : List Value} (h : AreKd w kSetup15 cs) : ∃ (c0 c1 c2 c3 c4 c5 c6 : Int) (v7 v8 v9 : Value), cs = [.int .i64 c0, .int .i64 c1, .int .i64 c2, .int .i64 c3, .int .i64 c4, .int .i64 c5, .int .i64 c6, v7, v8, v9] ∧ IsKd w (.slice kLine) v7 ∧ IsKd w (.slice [.slice [.int .u64]]) v8 ∧ IsKd w (.slice [.int .u64]) v9 := by
  obtain ⟨v0, d0, rfl, h0, h⟩ := AreKd.head h
  obtain ⟨v1, d1, rfl, h1, h⟩ := AreKd.head h
  obtain ⟨v2, d2, rfl, h2, h⟩ := AreKd.head h
  obtain ⟨v3, d3, rfl, h3, h⟩ := AreKd.head h
  obtain ⟨v4, d4, rfl, h4, h⟩ := AreKd.head h
  obtain ⟨v5, d5, rfl, h5, h⟩ := AreKd.head h
  obtain ⟨v6, d6, rfl, h6, h⟩ := AreKd.head h
  obtain ⟨v7, d7, rfl, h7, h⟩ := AreKd.head h
  obtain ⟨v8, d8, rfl, h8, h⟩ := AreKd.head h
  obtain ⟨v9, d9, rfl, h9, h⟩ := AreKd.head h
  obtain rfl := AreKd.done h
  rw [IsKd] at h0 h1 h2 h3 h4 h5 h6
  obtain ⟨c0, rfl, _⟩ := h0
  obtain ⟨c1, rfl, _⟩ := h1
  obtain ⟨c2, rfl, _⟩ := h2
  obtain ⟨c3, rfl, _⟩ := h3
  obtain ⟨c4, rfl, _⟩ := h4
  obtain ⟨c5, rfl, _⟩ := h5
  obtain ⟨c6, rfl, _⟩ := h6
  exact ⟨c0, c1, c2, c3, c4, c5, c6, v7, v8, v9, rfl, h7, h8, h9⟩

set_option maxRecDepth 100000 in
theorem machineQuiet_call {H : Type} {enc : TypeId × Value → H} : ∀ (W : World) (base : Nat) (args : Array Value) (ds : List (DataW H)) (ps : List MemPlace),
      (∀ (j : Nat) t v, Tryz.f5.params[j]? = some t → args[j]? = some v → Value.okWide Tryz.checked.prog W .any base t v) →
      DataW.TrodAll enc Tryz.checked.prog W 0 (fun _ => true) true Tryz.f5.params.toList args.toList ds ps → (∀ x ∈ ps, x.block < W.heap.size) → W.noneFrozen ps →
      (DataW.weightsEach Tryz.checked.prog Tryz.f5.params.toList ds).all (· ≤ reachBytes) = true → laidMetH Tryz.checked.prog laidM W →
      Calls Tryz.checked.prog 5 args W fun e W' => e = .returned (.bool true) ∧ Below W.heap.size W W' := by
  intro W base args ds ps hval0 hA0 hlt hfz hsz hL
  have ht := tabs_of_laid hL
  have hval : ∀ (j : Nat) t v, Tryz.f5.params[j]? = some t → args[j]? = some v → Value.okWide Tryz.prog W .any base t v := hval0
  have hA : DataW.TrodAll enc Tryz.prog W 0 (fun _ => true) true Tryz.f5.params.toList args.toList ds ps := hA0
  rw [Tryz.params5] at hA hval
  obtain ⟨v0, vs0, d0, ds0, p0, q0, hargs, rfl, rfl, h0, r0⟩ := trodAll_cons hA
  obtain ⟨v1, vs1, d1, ds1, p1, q1, rfl, rfl, rfl, h1, r1⟩ := trodAll_cons r0
  obtain ⟨rfl, rfl, rfl⟩ := trodAll_nil r1
  obtain rfl : args = #[v0, v1] := by cases args; simp_all
  clear hA0 hval0 hsz hfz hlt
  obtain ⟨cs, rfl, hk⟩ := open_row (by rw [Tryz.underlying28]) kinds_setup15 (hval 0 28 _ rfl rfl) h0
  obtain ⟨c0, c1, c2, c3, c4, c5, c6, v7, v8, v9, rfl, h7, h8, h9⟩ := setup_cells15 hk
  obtain ⟨IA, i, ic, zs, rfl, _, _, hz, hz0⟩ := lines_nn h7
  obtain ⟨PA, n, pc, px, rfl, hn, hc, hs, _, hp⟩ := h8.rows
  obtain ⟨fs, us, hf, hu, rfl, hpp⟩ := progs_of15 n px (by simpa using hs.1) (fun i hi => by simpa using hp i hi)
  obtain ⟨RA, r, rc, rv, rfl, _, _, hr, hrv⟩ := h9.ints
  obtain ⟨LA, m, lc, lx, rfl, _, _, hl, _, hlk⟩ := (open_sl Tryz.underlying29 kinds_acts15 (hval 1 29 _ rfl rfl) h1).rows
  obtain ⟨l, rfl, rfl⟩ := acts_of15 m lx hl.1 hlk
  exact (mquiet_any ht c0 c1 c2 c3 c4 c5 c6 hs hf (len_lt (Nat.le_trans hn hc)) hu hpp hr (by simpa using hr.1) (fun u h => bounds_lt (hrv u h)) hz hz0 hl).mono fun e w' h => to_below h

theorem machineQuiet_card : Rows.MachineQuietCardSaid := machineQuiet_card_of machineQuiet_call
#print axioms machineQuiet_card
end Go.Proofs.YtlidfghgjjffaaaGreatDoor
