/- A queue with its device as one; two lists of integers compared; what every statement of layer 3 wakes: walked. No condition. -/
import Derived.Test.YtaignekkhfjicaaWpqt
import Derived.IntWalk
namespace Go.Proofs.Ytaignekkhfjicaa
open Go.RowKit
set_option linter.unusedVariables false
attribute [local go_sem ↓] append_appS copy_copS clear_clrS make_mkS cell_row frozen_row loadLine storeLine loadEnt storeEnt loadREnt storeREnt heap_drew heap_drewN heap_alloc heap_past heap_setCell heap_putRow vs_get entc_pos
attribute [local go_sem] rowCell_some rowFrozen_some rowHas_some rowIn_some rowPart_full rowPart_lit rowPut_full rowPut_lit rowSet_some size_putRow vs_size vs_one wideLine wideEnt wideREnt run_loadS run_storeS run_appS run_copS run_clrS run_mkS loadW_at storeW_at fit_all fit_le one_int one_bool one_pointer one_slice allOne_list putRow_new ne_size1 ne_size2 ne_size3 ne_size4 zero8_length lines_nil line_eq lit8 entc_size entc_one entc_part entc_in entc_made fold_ent fold_entc fold_vs
attribute [local simp ↓] heap_drew heap_drewN heap_alloc heap_past heap_setCell heap_putRow
attribute [local simp] rowCell_some rowFrozen_some rowHas_some rowIn_some rowPart_full rowPart_lit rowPut_full rowPut_lit rowSet_some size_putRow vs_size fit_all putRow_new ne_size1 ne_size2 ne_size3 ne_size4 zero8_length entc_size


theorem ints_same (A B : Option Addr) (n c c' : Nat) (xs : List Int) (w : World) (h1 : Sl w 1 A n (xs.map (Value.int .i64))) (h2 : Sl w 1 B n (xs.map (Value.int .i64))) (hn : n ≤ 100000) :
    Calls Try.prog 24 #[.slice A n c, .slice B n c'] w fun e w' => e = .returned (.bool true) ∧ Chg [] w w' := by
  have H1 := Lib.hid h1
  have H2 := Lib.hid h2
  have HL := Lib.hid (show xs.length = n by simpa using h1.1)
  clear h1 h2
  go_enter Try.func24, Try.ntmps24
  go_wp2
  go_loopw [5] (fun i wr => ∃ k : Nat, k ≤ n ∧ i = .int .i64 k ∧ Chg [] w wr) (fun i _ => n - (intOf i).toNat)
  case atStart => exact ⟨0, by omega, rfl, Chg.refl _ _⟩
  case round =>
    obtain ⟨k, hk, rfl, hc⟩ := hrel
    by_cases hlt : k < n
    · obtain ⟨b, o, rfl⟩ := H1.out.addr (by omega)
      obtain ⟨b', o', rfl⟩ := H2.out.addr (by omega)
      obtain ⟨cs, t, f, hb, hi⟩ := (H1.out.chg hc (by simp)).cell hlt
      obtain ⟨cs', t', f', hb', hi'⟩ := (H2.out.chg hc (by simp)).cell hlt
      obtain ⟨y, hy⟩ : ∃ y, (xs.map (Value.int .i64))[k]? = some (.int .i64 y) := ⟨xs[k]'(by rw [HL.out]; exact hlt), by rw [List.getElem?_map, List.getElem?_eq_getElem (by rw [HL.out]; exact hlt)]; rfl⟩
      rw [hy] at hi hi'
      have g1 : (k : Int) < (n : Int) := by omega
      have g0 : (0 : Int) ≤ (k : Int) := by omega
      have g2 : (n : Int) ≤ 100000 := by omega
      clear hy
      go_wp2
      go_quiet (fail)
      go_wp2
      go_roundw
      case rel => exact ⟨k + 1, by omega, by go_num, hc.drewN _⟩
      case measure => simp [intOf]; omega
    · have : k = n := by omega
      subst this
      go_wp2
      go_ret
      exact ⟨rfl, hc⟩

/-! ### A queue with its device -/
/-- All of it is new to the world W; nothing else has changed since. -/
def Sys (W w : World) (q be g b n v room : Nat) (es : List Ent) (xs : List Int) : Prop :=
  Chg [] W w ∧ Que w q be g n room es ∧ Dev w g b n v xs ∧ Apart q be g b ∧ W.heap.size ≤ q ∧ W.heap.size ≤ be ∧ W.heap.size ≤ g ∧ W.heap.size ≤ b
theorem Sys.keep {W w w' : World} {q be g b n v room : Nat} {es : List Ent} {xs : List Int} (h : Sys W w q be g b n v room es xs) (hc : Chg [] w w') : Sys W w' q be g b n v room es xs :=
  ⟨h.1.trans hc, h.2.1.keep hc (by simp) (by simp), h.2.2.1.keep hc (by simp) (by simp), h.2.2.2⟩
def SysTo (W w : World) (q be g b n v room : Nat) (es : List Ent) (xs : List Int) (val : Value) (e : Ending) (w' : World) : Prop :=
  e = .returned val ∧ ∃ be', Sys W w' q be' g b n v room es xs ∧ Chg [q, be, g, b] w w' ∧ (be' = be ∨ w.heap.size ≤ be')
theorem Sys.in4 {W w : World} {q be g b n v room : Nat} {es : List Ent} {xs : List Int} (h : Sys W w q be g b n v room es xs) : ∀ x ∈ [q, be, g, b], x ∈ ([] : List Nat) ∨ W.heap.size ≤ x := by
  intro x hx
  have := h.2.2.2.2
  simp only [List.mem_cons, List.not_mem_nil, or_false] at hx
  rcases hx with rfl | rfl | rfl | rfl
  · exact .inr this.1
  · exact .inr this.2.1
  · exact .inr this.2.2.1
  · exact .inr this.2.2.2
theorem sub4 {q be g b : Nat} : ∀ x ∈ [q, be], x ∈ [q, be, g, b] ∨ (0 : Nat) ≤ x := fun x _ => .inr (Nat.zero_le _)
theorem Dev.oldg {w : World} {g b n v : Nat} {xs : List Int} (h : Dev w g b n v xs) : g < w.heap.size := (old h.1.choose_spec.choose_spec).lt
theorem Dev.oldb {w : World} {g b n v : Nat} {xs : List Int} (h : Dev w g b n v xs) : b < w.heap.size := (old h.2.1).lt
theorem notNew {w : World} {q be be' g b k : Nat} (hk : k ∉ [q, be, g, b]) (hl : k < w.heap.size) (hb : be' = be ∨ w.heap.size ≤ be') : k ∉ [q, be', g, b] := by
  simp at hk ⊢
  omega
section
variable {W w : World} {q be g b n v room : Nat} {es : List Ent} {xs : List Int} (h : Sys W w q be g b n v room es xs)
include h
theorem Sys.len : es.length ≤ room := h.2.1.2.1
theorem Sys.room1 : 1 ≤ room := h.2.1.2.2.1
theorem Sys.room16 : room ≤ 16 := h.2.1.2.2.2.1
theorem Sys.lie : Lie n es := h.2.1.2.2.2.2.2.2
theorem Sys.size : xs.length = n * 8 := h.2.2.1.2.2.1
theorem Sys.n64 : n ≤ 64 := h.2.1.2.2.2.2.2.1
theorem Sys.n2 : 2 ≤ n := h.2.1.2.2.2.2.1
theorem Sys.v1 : 1 ≤ v := h.2.2.1.2.2.2.2.2.1
theorem Sys.vn : v < n := h.2.2.1.2.2.2.2.2.2.1
theorem Sys.over : (over xs es).length = n * 8 := over_length es xs h.size h.lie
theorem Sys.new4 {k : Nat} (hk : w.heap.size ≤ k) : k ∉ [q, be, g, b] := by
  have h1 := h.2.1.oldq.lt
  have h2 := h.2.1.olde.lt
  have h3 := h.2.2.1.oldg
  have h4 := h.2.2.1.oldb
  simp; omega
theorem Sys.argBlock {k : Nat} (hk : k < W.heap.size) : k ∉ [q, be, g, b] := by
  have := h.2.2.2.2
  simp; omega
theorem sys_push (x : Ent) (hi : x.pos < n) (hr : es.length < room) : Calls Try.prog 13 #[.pointer (some ⟨q, 0, none⟩), .int .i64 x.pos, .agg (vs x.l)] w (SysTo W w q be g b n v room (es ++ [x]) xs (.int .i64 0)) :=
  (push_ok q be g n room es x w h.2.1 hi hr).mono fun e w' ⟨he, be', hb, hc, hq⟩ => by
    have ha := h.2.2.2.1
    have hd := h.2.2.1
    have hg := hd.oldg
    have hgb := hd.oldb
    have hn := h.2.2.2.2
    have hw := h.1.size
    obtain ⟨a1, a2, a3, a4⟩ := ha
    refine ⟨he, be', ⟨?_, hq, hd.keep hc (by simp; omega) (by simp; omega), ⟨a1, a2, ?_, ?_⟩, hn.1, ?_, hn.2.2⟩, hc.mono (by simp), hb⟩
    · exact h.1.trans' hc (by simp; omega)
    · rcases hb with rfl | hb <;> omega
    · rcases hb with rfl | hb <;> omega
    · rcases hb with rfl | hb <;> omega
theorem sys_drain (x : Ent) (j : Nat) (hx : es[j]? = some x) (hi : ∀ e ∈ es.take j, (e.pos : Int) ≠ (x.pos : Int)) : Calls Try.prog 17 #[.pointer (some ⟨q, 0, none⟩), .int .i64 x.pos] w (SysTo W w q be g b n v room (es.eraseIdx j) (lnPut xs x.pos x.l) (.int .i64 0)) :=
  (drain_ok q be g b n v room es xs j x w h.2.1 h.2.2.1 h.2.2.2.1 hx hi).mono fun e w' ⟨he, hc, hq, hd⟩ => ⟨he, be, ⟨h.1.trans' hc h.in4, hq, hd, h.2.2.2⟩, hc, .inl rfl⟩
theorem sys_fail : Calls Try.prog 19 #[.pointer (some ⟨q, 0, none⟩)] w (SysTo W w q be g b n v room [] (forget (Go.Proofs.Ytaignekkhfjicaa.over xs es) v) (.tuple #[])) :=
  (qfail_ok q be g b n v room es xs w h.2.1 h.2.2.1 h.2.2.2.1).mono fun e w' ⟨he, hc, hq, hd⟩ => ⟨he, be, ⟨h.1.trans' hc h.in4, hq, hd, h.2.2.2⟩, hc, .inl rfl⟩
theorem sys_read (i : Nat) (hi : i < n) : Calls Try.prog 15 #[.pointer (some ⟨q, 0, none⟩), .int .i64 i] w (SysTo W w q be g b n v room es xs (.tuple #[.agg (vs (ln (Go.Proofs.Ytaignekkhfjicaa.over xs es) i)), .int .i64 0])) :=
  (qread_ok q be g b n v room es xs i w h.2.1 h.2.2.1 hi).mono fun e w' ⟨he, hc, hd⟩ => by
    obtain ⟨a1, a2, a3, a4⟩ := h.2.2.2.1
    exact ⟨he, be, ⟨h.1.trans' hc (by have := h.2.2.2.2; simp; omega), h.2.1.keep hc (by simp; omega) (by simp; omega), hd, h.2.2.2⟩, hc.mono (by simp), .inl rfl⟩
theorem sys_dread (i : Nat) (hi : i < n) : Calls Try.prog 32 #[.pointer (some ⟨g, 0, none⟩), .int .i64 i] w (SysTo W w q be g b n v room es xs (.tuple #[.agg (vs (ln xs i)), .int .i64 0])) :=
  (read_ok g b n v i xs w h.2.2.1 hi).mono fun e w' ⟨he, hc, hd⟩ => by
    obtain ⟨a1, a2, a3, a4⟩ := h.2.2.2.1
    exact ⟨he, be, ⟨h.1.trans' hc (by have := h.2.2.2.2; simp; omega), h.2.1.keep hc (by simp; omega) (by simp; omega), hd, h.2.2.2⟩, hc.mono (by simp), .inl rfl⟩
end
theorem sys_new (W : World) (n v room : Nat) (w : World) (g b : Nat) (xs : List Int) (hc : Chg [] W w) (hd : Dev w g b n v xs) (hg : W.heap.size ≤ g) (hb : W.heap.size ≤ b) (h1 : 1 ≤ room) (h2 : room ≤ 16) :
    Calls Try.prog 11 #[.pointer (some ⟨g, 0, none⟩), .int .i64 room] w fun e w' => ∃ q, e = .returned (.tuple #[.pointer (some ⟨q, 0, none⟩), .int .i64 0]) ∧ Sys W w' q q g b n v room [] xs ∧ Chg [] w w' ∧ w.heap.size ≤ q :=
  (qnew_ok g b n v room xs w hd h1 h2).mono fun e w' ⟨q, he, hq, hc', hqq⟩ => by
    have h3 := hd.oldg
    have h4 := hd.oldb
    have h5 := hc.size
    exact ⟨q, he, ⟨hc.trans hc', hqq, hd.keep hc' (by simp) (by simp), ⟨by omega, by omega, by omega, by omega⟩, by omega, by omega, hg, hb⟩, hc', hq⟩
/-- The entries, the lines, behind the awakening. -/
def wake1 : Ent := ⟨3, [1, 0, 0, 0, 0, 0, 0, 0], rfl⟩
def wake2 : Ent := ⟨3, [2, 0, 0, 0, 0, 0, 0, 0], rfl⟩
theorem wake_l1 : ln (lnPut (List.replicate (4 * 8) 0) 3 [1, 0, 0, 0, 0, 0, 0, 0]) 3 = [1, 0, 0, 0, 0, 0, 0, 0] := by decide
theorem wake_l2 : ln (over (lnPut (List.replicate (4 * 8) 0) 3 [1, 0, 0, 0, 0, 0, 0, 0]) [wake2]) 3 = [2, 0, 0, 0, 0, 0, 0, 0] := by decide
theorem wakes_true (W : World) : Calls Try.prog 8 #[] W fun e w' => e = .returned (.bool true) ∧ Chg [] W w' := by
  go_enter Try.func8, Try.ntmps8
  go_wp2_with fail
  refine (new_ok 4 1 W (by omega) (by omega) (by omega) (by omega)).mono ?_
  rintro e w1 ⟨rfl, c1, d1, z1⟩
  have D1 := Lib.hid d1
  have C1 := Lib.hid c1
  clear d1 c1 z1
  go_wp2_with fail
  refine (sys_new W 4 1 2 _ _ _ _ C1.out D1.out (by omega) (by omega) (by omega) (by omega)).mono ?_
  rintro e w2 ⟨q, rfl, s2, _, _⟩
  have S2 := Lib.hid s2
  clear s2
  go_wp2_with fail
  refine (sys_push S2.out wake1 (by decide) (by decide)).mono ?_
  rintro e w3 ⟨rfl, be3, s3, _, _⟩
  have S3 := Lib.hid s3
  clear s3
  go_wp2_with fail
  refine (sys_push S3.out wake2 (by decide) (by decide)).mono ?_
  rintro e w4 ⟨rfl, be4, s4, _, _⟩
  have S4 := Lib.hid s4
  clear s4
  go_wp2_with fail
  refine (push_full q _ _ 4 2 _ 2 [9, 0, 0, 0, 0, 0, 0, 0] _ S4.out.2.1 (by decide) (by decide)).mono ?_
  rintro e w5 ⟨rfl, c5⟩
  have S5 := Lib.hid (S4.out.keep c5)
  clear c5
  go_wp2_with fail
  refine (sys_drain S5.out wake1 0 rfl (by simp)).mono ?_
  rintro e w6 ⟨rfl, be6, s6, _, _⟩
  have S6 := Lib.hid s6
  clear s6
  go_wp2_with fail
  refine (sys_read S6.out 3 (by decide)).mono ?_
  rintro e w7 ⟨rfl, be7, s7, c7, _⟩
  have e7 : ln (over (lnPut (List.replicate (4 * 8) 0) wake1.pos wake1.l) (List.eraseIdx ([] ++ [wake1] ++ [wake2]) 0)) 3 = [2, 0, 0, 0, 0, 0, 0, 0] := wake_l2
  have e1 : ln (lnPut (List.replicate (4 * 8) 0) wake1.pos wake1.l) 3 = [1, 0, 0, 0, 0, 0, 0, 0] := wake_l1
  rw [e7]
  have S7 := Lib.hid (s7.keep ((Chg.refl [] w7).alloc (.cells (vs [2, 0, 0, 0, 0, 0, 0, 0]) 40)))
  have hl7 : (w7.alloc (.cells (vs [2, 0, 0, 0, 0, 0, 0, 0]) 40)).heap[w7.heap.size]? = some (.cells (vs [2, 0, 0, 0, 0, 0, 0, 0]) 40 (0, 0)) := by simp
  have HN7 := Lib.hid (s7.new4 (Nat.le_refl _))
  have E1 := Lib.hid e1
  clear s7 c7 e7 e1
  go_wp2_with fail
  generalize w7.alloc (.cells (vs [2, 0, 0, 0, 0, 0, 0, 0]) 40) = w8 at S7 hl7 ⊢
  refine (sys_dread S7.out 3 (by decide)).mono ?_
  rintro e w9 ⟨rfl, be9, s9, c9, _⟩
  rw [E1.out]
  have hl9 := c9.keep hl7 HN7.out
  have ol9 := old hl9
  have S9 := Lib.hid (s9.keep ((Chg.refl [] w9).alloc (.cells (vs [1, 0, 0, 0, 0, 0, 0, 0]) 40)))
  clear s9 c9 hl7
  go_wp2_with fail
  refine (qlen_ok q _ _ 4 2 _ _ S9.out.2.1).mono ?_
  rintro e w10 ⟨rfl, rfl⟩
  go_wp2_with fail
  refine (drain_none q _ _ 4 2 _ 2 _ S9.out.2.1 (by intro e he; simp at he; rw [he]; decide)).mono ?_
  rintro e w11 ⟨rfl, c11⟩
  have S11 := Lib.hid (S9.out.keep c11)
  clear c11
  go_wp2_with fail
  go_ret
  exact ⟨rfl, S11.out.1⟩
/-- A remainder, as 'Mod' reckons it. -/
def modn (a : Int) (n : Nat) : Nat := (a % (n : Int)).toNat
theorem modn_lt (a : Int) (n : Nat) (h : 0 < n) : modn a n < n := by
  have h1 := Int.emod_nonneg a (show (n : Int) ≠ 0 by omega)
  have h2 := Int.emod_lt_of_pos a (show (0 : Int) < (n : Int) by omega)
  unfold modn; omega
theorem mod_ok (a : Int) (n : Nat) (h1 : 1 ≤ n) (h2 : n ≤ 1000000) (w : World) : Calls Try.prog 31 #[.int .i64 a, .int .i64 n] w fun e w' => e = .returned (.int .i64 (modn a n)) ∧ w = w' := by
  have hn0 : (n : Int) ≠ 0 := by omega
  have g1 : (1 : Int) ≤ (n : Int) := by omega
  have g2 : (n : Int) ≤ 1000000 := by omega
  have b1 : -(n : Int) < a.tmod n := by
    have := Int.lt_tmod_of_pos a (show (0 : Int) < (n : Int) by omega)
    omega
  have b2 : a.tmod n < (n : Int) := Int.tmod_lt_of_pos a (by omega)
  have hm : (modn a n : Int) = (a.tmod n + n) % n := by
    unfold modn
    rw [Int.toNat_of_nonneg (Int.emod_nonneg a hn0), Int.add_emod_right]
    exact (Int.emod_eq_emod_iff_emod_sub_eq_zero).2 (by
      have := Int.mul_tdiv_add_tmod a n
      have h3 : a - a.tmod n = n * a.tdiv n := by omega
      rw [h3]; exact Int.mul_emod_right _ _)
  have HM := Lib.hid hm
  have w1 : IntKind.i64.wrap (a.tmod n + n) = a.tmod n + n := IntWalk.i64_in _ (by omega)
  have w2 : 0 ≤ a.tmod n + n := by omega
  have w3 : IntKind.i64.wrap (a.tmod n) = a.tmod n := IntWalk.i64_in _ (by omega)
  clear hm
  go_enter Try.func31, Try.ntmps31
  go_wp2
  go_ret
  exact ⟨by rw [HM.out]; rfl, rfl⟩
end Go.Proofs.Ytaignekkhfjicaa
