/- AgentPlays walked: the program's agent and the document's, side by side, through any steps. No condition. -/
import Derived.Test.YtadeoflkppiflaaDoorAgo1
import Derived.Test.YtadeoflkppiflaaDoorMsge
import Derived.Test.YtadeoflkppiflaaDoorArgs
import Derived.Test.YtadeoflkppiflaaDoorAgn
import Derived.Test.YtadeoflkppiflaaDoorAhf
import Derived.Test.YtadeoflkppiflaaDoorAgm
import Derived.Test.YtadeoflkppiflaaDoorArrw
import Derived.Test.YtadeoflkppiflaaDoorMsgr
import Derived.BigQuiet
import Derived.Deep.RegionWith
import Derived.Deep.RegionHeld3
import Derived.Deep.QuietTactic
import Derived.Deep.Cut
import Derived.Deep.CutBlock
import Derived.Deep.CutRange
import Derived.Deep.DeepCutAuto
namespace Go.Proofs.YtadeoflkppiflaaDoor
open Go.RowKit
set_option linter.unusedVariables false
set_option maxHeartbeats 1000000
attribute [local go_sem ↓] append_appS copy_copS clear_clrS make_mkS cell_row frozen_row loadLine storeLine loadSlot storeSlot heap_drew heap_drewN heap_alloc heap_past heap_setCell heap_putRow vs_get slc_st slc_li slc_us slice_slS loadMsg storeMsg loadHas storeHas msc_kd msc_li msc_di msc_ke
attribute [local go_sem] rowCell_some rowFrozen_some rowHas_some rowIn_some rowPart_full rowPart_lit rowPut_full rowPut_lit rowSet_some size_putRow vs_size vs_one wideLine wideSlot run_loadS run_storeS run_appS run_copS run_clrS run_mkS loadW_at storeW_at fit_all fit_le one_int one_bool one_pointer one_slice allOne_list putRow_new ne_size1 ne_size2 ne_size3 ne_size4 zero8_length line_eq lit8 slc_size slc_one slc_part slc_in fold_slt fold_slc slc_set_us wideMsg wideHas run_slS msc_size msc_one msc_part msc_in fold_msc msc_putDi msc_putKe msc_putX msc_has ms4_lit
attribute [local simp ↓] heap_drew heap_drewN heap_alloc heap_past heap_setCell heap_putRow
attribute [local simp] rowCell_some rowFrozen_some rowHas_some rowIn_some rowPart_full rowPart_lit rowPut_full rowPut_lit rowSet_some size_putRow vs_size fit_all putRow_new ne_size1 ne_size2 ne_size3 ne_size4 zero8_length slc_size msc_size msc_putDi msc_putKe msc_putX msc_has fit_le

attribute [local go_sem ↓] loadGSt storeGSt gsc_kd gsc_li gsc_wd gsc_v
attribute [local go_sem] wideGSt gsc_size gsc_one gsc_part gsc_in
attribute [local simp] gsc_size

/-! ### A step among others -/
def kGMs : List Kd := .int .i64 :: .int .i64 :: .bool :: .bool :: kLine
def kGStp : List Kd := .int .i64 :: .int .i64 :: .int .i64 :: .int .u64 :: kGMs
theorem gms_cells {w : World} {cs : List Value} (h : AreKd w kGMs cs) : ∃ m : Ms, cs = Ms.enc m := by
  obtain ⟨v0, c0, rfl, h0, hA⟩ := AreKd.head h
  obtain ⟨v1, c1, rfl, h1, hB⟩ := AreKd.head hA
  obtain ⟨v2, c2, rfl, h2, hC⟩ := AreKd.head hB
  obtain ⟨v3, c3, rfl, h3, hD⟩ := AreKd.head hC
  simp only [IsKd] at h0 h1 h2 h3
  obtain ⟨kd, rfl, _⟩ := h0
  obtain ⟨li, rfl, _⟩ := h1
  obtain ⟨di, rfl⟩ := h2
  obtain ⟨ke, rfl⟩ := h3
  obtain ⟨ns, hl, rfl, _⟩ := AreKd.ints (m := 8) hD
  exact ⟨⟨kd, li, di, ke, ns, hl⟩, rfl⟩
theorem gstp_cells {w : World} {cs : List Value} (h : AreKd w kGStp cs) : ∃ x : GStp, cs = GStp.enc x := by
  obtain ⟨v0, c0, rfl, h0, hA⟩ := AreKd.head h
  obtain ⟨v1, c1, rfl, h1, hB⟩ := AreKd.head hA
  obtain ⟨v2, c2, rfl, h2, hC⟩ := AreKd.head hB
  obtain ⟨v3, c3, rfl, h3, hD⟩ := AreKd.head hC
  simp only [IsKd] at h0 h1 h2 h3
  obtain ⟨kd, rfl, _⟩ := h0
  obtain ⟨li, rfl, _⟩ := h1
  obtain ⟨wd, rfl, _⟩ := h2
  obtain ⟨v, rfl, _⟩ := h3
  obtain ⟨m, rfl⟩ := gms_cells hD
  exact ⟨⟨kd, li, wd, v, m⟩, rfl⟩
theorem gstp_row {w wr : World} {A : Option Addr} {n : Nat} {xs : List Value} {l : List Nat} (hA : Sl w 16 A n xs) {i : Nat} (hi : i < n) (hk : AreKd w kGStp ((xs.drop (i * 16)).take 16)) (hc : Chg [] w wr) :
    ∃ (x : GStp) (b o : Nat) (c : Array Value) (t : TypeId) (f : Nat × Nat), A = some ⟨b, o, none⟩ ∧ wr.heap[b]? = some (.cells c t f) ∧ rowIn (some (.cells c t f)) (o + i * 16) 16 = true ∧ rowPart (some (.cells c t f)) (o + i * 16) 16 = gsc x := by
  obtain ⟨x, hy⟩ := gstp_cells hk
  obtain ⟨b, o, rfl⟩ := hA.addr (by omega)
  obtain ⟨cs, t, f, hb, _, hp⟩ := (hA.chg hc (by simp)).elem (by omega) hi hy
  have h0 := hp 0 16 (by omega)
  rw [Nat.add_zero] at h0
  refine ⟨x, b, o, cs, t, f, rfl, hb, h0.1, ?_⟩
  rw [h0.2]
  simp [gsc, GStp.enc, Ms.len, List.take_of_length_le]

theorem wideLd : Wide Tryd.prog 42 3 := ⟨⟨_, Tryd.underlying42, by rfl⟩, by kernel_rfl⟩
theorem storeLd (x y : Value) : Instr.storeAt 42 x y = storeS 42 3 x y := rfl
attribute [local go_sem ↓] storeLd
attribute [local go_sem] wideLd
theorem hear_len {S N : Nat} {s : Sta} (m : Ms) : (hearF S N s m).2.1.length ≤ 1 := by
  unfold hearF
  split
  · split
    · exact Nat.zero_le _
    · show (answersL _ _ _).length ≤ 1
      unfold answersL
      split
      · exact Nat.le_refl _
      · split
        · exact Nat.le_refl _
        · exact Nat.zero_le _
  · exact Nat.zero_le _
/-! ### The program's agent and the document's, side by side -/
def PB (W w : World) (g a b p c d S N : Nat) (s : Sta) : Prop :=
  Agt W w g a b S N s ∧ RAg w p c d S N s ∧ (g ∉ [c, d] ∧ a ∉ [c, d] ∧ b ∉ [c, d]) ∧ (p ∉ [a, b] ∧ c ∉ [a, b] ∧ d ∉ [a, b]) ∧ (W.heap.size ≤ c ∧ W.heap.size ≤ d)
theorem PB.keep {W w w' : World} {g a b p c d S N : Nat} {s : Sta} (h : PB W w g a b p c d S N s) (hc : Chg [] w w') : PB W w' g a b p c d S N s := ⟨h.1.keep hc, h.2.1.keep hc, h.2.2⟩
theorem PB.one {W w w' : World} {g a b p c d S N : Nat} {s : Sta} (h : PB W w g a b p c d S N s) (hc : Chg [a, b] w w') : RAg w' p c d S N s :=
  ⟨h.2.1.1.keep hc h.2.2.2.1.2.1 h.2.2.2.1.2.2, hc.keep h.2.1.2.1 h.2.2.2.1.1, h.2.1.2.2⟩
theorem PB.other {W w w1 w2 : World} {g a b p c d S N : Nat} {s s' : Sta} (h : PB W w g a b p c d S N s) (h1 : Agt W w1 g a b S N s') (h2 : RAg w2 p c d S N s') (hc : Chg [c, d] w1 w2) : PB W w2 g a b p c d S N s' := by
  refine ⟨⟨⟨h1.1.1.trans' hc ?_, h1.1.2.1.keep hc h.2.2.1.2.1 h.2.2.1.2.2, h1.1.2.2⟩, hc.keep h1.2.1 h.2.2.1.1, h1.2.2⟩, h2, h.2.2⟩
  intro x hx
  have h3 := h.2.2.2.2
  simp at hx
  rcases hx with rfl | rfl
  · exact .inr h3.1
  · exact .inr h3.2
theorem PB.new {W w : World} {g a b p c d S N : Nat} {s : Sta} (h : PB W w g a b p c d S N s) {k : Nat} (hk : w.heap.size ≤ k) : k ∉ [a, b] ∧ k ∉ [c, d] := by
  have h1 := h.1.new2 hk
  have h2 := h.2.1.new2 hk
  exact ⟨h1, h2⟩
set_option maxHeartbeats 8000000 in
set_option maxRecDepth 100000 in
theorem gplays_any (si wi : Int) (A : Option Addr) (N cN : Nat) (xs : List Value) (W : World) (hT : Tabs W) (hA : Sl W 16 A N xs) (hN : N ≤ maxLen) (hk : ∀ i, i < N → AreKd W kGStp ((xs.drop (i * 16)).take 16)) :
    Calls Tryd.prog 3 #[.int .i64 si, .int .i64 wi, .slice A N cN] W fun e w' => e = .returned (.bool true) ∧ Chg [] W w' := by
  unfold maxLen at hN
  have HT := Lib.hid hT
  have HA := Lib.hid hA
  have HK := Lib.hid hk
  clear hA hk hT
  by_cases h200 : 200 < N
  · have t0 : decide (200 < N) = true := by simpa using h200
    go_enter Tryd.func3, Tryd.ntmps3
    try dsimp only [List.append]
    go_wp2_with fail
    refine (awakes W HT.out).mono ?_
    rintro e w2 ⟨rfl, c2⟩
    go_wp2_with fail
    go_ret
    exact ⟨rfl, c2⟩
  have t0 : decide (200 < N) = false := by simpa using h200
  have hN' : N ≤ 200 := by omega
  have gN : (N : Int) ≤ 200 := by omega
  by_cases hgood : goodNew si wi
  · obtain ⟨S, rfl⟩ : ∃ S : Nat, si = S := ⟨si.toNat, by unfold goodNew at hgood; omega⟩
    obtain ⟨M, rfl⟩ : ∃ M : Nat, wi = M := ⟨wi.toNat, by unfold goodNew at hgood; omega⟩
    have HG := Lib.hid hgood
    clear hgood
    go_enter Tryd.func3, Tryd.ntmps3
    try dsimp only [List.append]
    go_wp2_with fail
    refine (gnew_ok S M W W (Chg.refl _ _) HG.out).mono ?_
    rintro e w1 ⟨g, a, b, rfl, h0, _⟩
    have H1 := Lib.hid h0
    clear h0
    go_wp2_with fail
    refine (hnew_ok S M w1 HG.out).mono ?_
    rintro e w2 ⟨p, c, d, rfl, h2, q1, q2, q3, c2⟩
    have HB := Lib.hid (show PB W w2 g a b p c d S M (List.replicate (S * M) sltZ, 0) by
      have l1 := lt_heap H1.out.2.1
      have l2 := H1.out.old2
      have l3 := H1.out.1.1.size
      simp only [List.mem_cons, List.not_mem_nil, or_false, forall_eq_or_imp, forall_eq] at l2
      refine ⟨H1.out.keep c2, h2, ?_, ?_, ?_⟩
      · simp only [List.mem_cons, List.not_mem_nil, or_false, not_or]; omega
      · simp only [List.mem_cons, List.not_mem_nil, or_false, not_or]; omega
      · omega)
    clear H1 h2 q1 q2 q3 c2
    go_wp2_with fail
    generalize hs0 : ((List.replicate (S * M) sltZ, 0) : Sta) = s0 at HB
    have hu0 : s0.2 = 0 := by rw [← hs0]
    clear hs0
    go_loopw [11] (fun i wr => ∃ (k : Nat) (s : Sta), k ≤ N ∧ i = .int .i64 k ∧ PB W wr g a b p c d S M s ∧ s.2 ≤ k) (fun i _ => N - (intOf i).toNat)
    case atStart => exact ⟨0, s0, by omega, rfl, HB.out, by omega⟩
    case round =>
      clear HB
      obtain ⟨k, s, hk, rfl, h0, hu⟩ := hrel
      have HB := Lib.hid h0
      clear h0
      by_cases hlt : k < N
      · have g1 : (k : Int) < (N : Int) := by omega
        have g0 : (0 : Int) ≤ (k : Int) := by omega
        obtain ⟨x, bA, oA, cA, tA, fA, rfl, rA, rAi, rAp⟩ := gstp_row (l := []) HA.out hlt (HK.out k hlt) HB.out.1.1.1
        have cb := (Chg.refl [] wr).alloc (.cells (gsc x) 37)
        have rX : (wr.alloc (.cells (gsc x) 37)).heap[wr.heap.size]? = some (.cells (gsc x) 37 (0, 0)) := by simp
        have NX := Lib.hid (HB.out.new (Nat.le_refl _))
        have NO := Lib.hid (show ∀ y ∈ [c, d], y < (wr.alloc (.cells (gsc x) 37)).heap.size from fun y hy => Nat.lt_of_lt_of_le (HB.out.2.1.old2 y hy) cb.size)
        replace HB := Lib.hid (HB.out.keep cb)
        clear cb
        go_upto_block 2 with (fail)
        clear rA rAi rAp
        have hpX : wr.heap.size = wr.heap.size := rfl
        generalize wr.heap.size = pX at rX NX ⊢
        generalize wr.alloc (.cells (gsc x) 37) = w3 at rX HB NO ⊢
        have oX := old rX
        go_cut [13, 14, 15, 16, 17, 18, 19, 20, 21, 22, 23, 24, 25, 26, 27, 28] from 55 to 227 (fun s13 s14 s15 s16 s17 s18 s19 s20 s21 s22 s23 s24 s25 s26 s27 s28 wx => ∃ s9 : Sta, PB W wx g a b p c d S M s9 ∧ s9.2 ≤ (k : Int) + 1 ∧ wx.heap[pX]? = some (.cells (gsc x) 37 (0, 0)))
        case first =>
          have hkd : x.kd = 0 ∨ x.kd = 1 ∨ x.kd = 2 ∨ x.kd = 3 ∨ x.kd = 4 ∨ (x.kd ≠ 0 ∧ x.kd ≠ 1 ∧ x.kd ≠ 2 ∧ x.kd ≠ 3 ∧ x.kd ≠ 4) := by omega
          rcases hkd with hkd | hkd | hkd | hkd | hkd | hkd
          · as_aux_lemma =>
              have k0 : (x.kd == 0) = true := by simp; omega
              clear hkd
              have hc := gload_any x.li x.wd w3 HB.out.1 (by omega)
              have hd : ∀ w1, RAg w1 p c d S M s → _ := fun w1 h => hload_any x.li x.wd w1 h (by omega)
              have hle := (loadF_one HB.out.1.good HB.out.1.sane x.li x.wd).1
              have huu : s.2 ≤ (loadF S M s x.li x.wd).1.2 ∧ (loadF S M s x.li x.wd).1.2 ≤ s.2 + 1 := loadF_u
              generalize loadF S M s x.li x.wd = r at hc hd hle huu
              have HD := Lib.hid hd
              have HL := Lib.hid hle
              have HU := Lib.hid huu
              clear hd hle huu
              clear hpX
              go_wp2_with fail
              refine hc.mono ?_
              clear hc
              rintro e w5 ⟨A1, n1, rfl, h1, h2, h3⟩
              have T1 := Lib.hid h1
              have G1 := Lib.hid h2
              have D1 := Lib.hid (HB.out.one h3)
              replace rX := h3.keep rX NX.out.1
              clear h1 h2 h3
              have oX := old rX
              go_wp2_with fail
              refine (HD.out w5 D1.out).mono ?_
              rintro e w6 ⟨A2, n2, rfl, h1, h2, h3⟩
              have T2 := Lib.hid h1
              replace T1 := Lib.hid (T1.out.keep h3 NO.out)
              replace HB := Lib.hid (HB.out.other G1.out h2 h3)
              replace rX := h3.keep rX NX.out.2
              clear h1 h2 h3 oX G1 D1
              have oX := old rX
              have tv1 : (r.2.1 != r.2.1) = false := by simp
              have tv2 : (r.2.2.1 != r.2.2.1) = false := by simp
              go_wp2_with fail
              have cb := (Chg.refl [] w6).alloc (.cells #[.int .u64 r.2.1, .bool r.2.2.1, .slice A2 r.2.2.2.length n2] 42)
              refine (msgs_same A1 A2 _ n1 n2 r.2.2.2 _ (T1.out.keep cb (by simp)).1 (T2.out.keep cb (by simp)).1 rfl (by have := HL.out; omega)).mono ?_
              rintro e w7 ⟨rfl, c7⟩
              replace HB := Lib.hid (HB.out.keep (cb.trans c7))
              replace rX := (cb.trans c7).keep rX List.not_mem_nil
              clear c7 oX cb
              go_wp2_with fail
              go_meet
              case rel => exact ⟨r.1, HB.out, by have := HU.out; omega, rX⟩
          · as_aux_lemma =>
              have k0 : (x.kd == 0) = false := by simp; omega
              have k1 : (x.kd == 1) = true := by simp; omega
              clear hkd
              have hc := gstore_any x.li x.wd x.v w3 HB.out.1 (by omega)
              have hd : ∀ w1, RAg w1 p c d S M s → _ := fun w1 h => hstore_any x.li x.wd x.v w1 h (by omega)
              have hle := (storeF_one HB.out.1.good HB.out.1.sane x.li x.wd x.v).1
              have huu : s.2 ≤ (storeF S M s x.li x.wd x.v).1.2 ∧ (storeF S M s x.li x.wd x.v).1.2 ≤ s.2 + 1 := storeF_u
              generalize storeF S M s x.li x.wd x.v = r at hc hd hle huu
              have HD := Lib.hid hd
              have HL := Lib.hid hle
              have HU := Lib.hid huu
              clear hd hle huu
              clear hpX
              go_wp2_with fail
              refine hc.mono ?_
              clear hc
              rintro e w5 ⟨A1, n1, rfl, h1, h2, h3⟩
              have T1 := Lib.hid h1
              have G1 := Lib.hid h2
              have D1 := Lib.hid (HB.out.one h3)
              replace rX := h3.keep rX NX.out.1
              clear h1 h2 h3
              have oX := old rX
              go_wp2_with fail
              refine (HD.out w5 D1.out).mono ?_
              rintro e w6 ⟨A2, n2, rfl, h1, h2, h3⟩
              have T2 := Lib.hid h1
              replace T1 := Lib.hid (T1.out.keep h3 NO.out)
              replace HB := Lib.hid (HB.out.other G1.out h2 h3)
              replace rX := h3.keep rX NX.out.2
              clear h1 h2 h3 oX G1 D1
              have oX := old rX
              have tv1 : (r.2.1 != r.2.1) = false := by simp
              go_wp2_with fail
              refine (msgs_same A1 A2 _ n1 n2 r.2.2 _ T1.out.1 T2.out.1 rfl (by have := HL.out; omega)).mono ?_
              rintro e w7 ⟨rfl, c7⟩
              replace HB := Lib.hid (HB.out.keep c7)
              replace rX := c7.keep rX List.not_mem_nil
              clear c7 oX
              go_wp2_with fail
              go_meet
              case rel => exact ⟨r.1, HB.out, by have := HU.out; omega, rX⟩
          · as_aux_lemma =>
              have k0 : (x.kd == 0) = false := by simp; omega
              have k1 : (x.kd == 1) = false := by simp; omega
              have k2 : (x.kd == 2) = true := by simp; omega
              clear hkd
              have hc := ghear_any x.m w3 HB.out.1 (by omega) HT.out
              have hd : ∀ w1, RAg w1 p c d S M s → _ := fun w1 h => hhear_any x.m w1 h (by omega)
              have hle := (hear_len (S := S) (N := M) (s := s) x.m)
              have huu : s.2 ≤ (hearF S M s x.m).1.2 ∧ (hearF S M s x.m).1.2 ≤ s.2 + 1 := hearF_u
              generalize hearF S M s x.m = r at hc hd hle huu
              have HD := Lib.hid hd
              have HL := Lib.hid hle
              have HU := Lib.hid huu
              clear hd hle huu
              clear hpX
              go_wp2_with fail
              refine hc.mono ?_
              clear hc
              rintro e w5 ⟨A1, n1, rfl, h1, h2, h3⟩
              have T1 := Lib.hid h1
              have G1 := Lib.hid h2
              have D1 := Lib.hid (HB.out.one h3)
              replace rX := h3.keep rX NX.out.1
              clear h1 h2 h3
              have oX := old rX
              go_wp2_with fail
              refine (HD.out w5 D1.out).mono ?_
              rintro e w6 ⟨A2, n2, rfl, h1, h2, h3⟩
              have T2 := Lib.hid h1
              replace T1 := Lib.hid (T1.out.keep h3 NO.out)
              replace HB := Lib.hid (HB.out.other G1.out h2 h3)
              replace rX := h3.keep rX NX.out.2
              clear h1 h2 h3 oX G1 D1
              have oX := old rX
              have tv1 : (r.2.2 != r.2.2) = false := by simp
              go_wp2_with fail
              refine (msgs_same A1 A2 _ n1 n2 r.2.1 _ T1.out.1 T2.out.1 rfl (by have := HL.out; omega)).mono ?_
              rintro e w7 ⟨rfl, c7⟩
              replace HB := Lib.hid (HB.out.keep c7)
              replace rX := c7.keep rX List.not_mem_nil
              clear c7 oX
              go_wp2_with fail
              go_meet
              case rel => exact ⟨r.1, HB.out, by have := HU.out; omega, rX⟩
          · as_aux_lemma =>
              have k0 : (x.kd == 0) = false := by simp; omega
              have k1 : (x.kd == 1) = false := by simp; omega
              have k2 : (x.kd == 2) = false := by simp; omega
              have k3 : (x.kd == 3) = true := by simp; omega
              clear hkd
              have hc := gevict_any x.li w3 HB.out.1 (by omega)
              have hd : ∀ w1, RAg w1 p c d S M s → _ := fun w1 h => hevict_any x.li w1 h (by omega)
              have hle := (evictF_one HB.out.1.good HB.out.1.sane x.li).1
              have huu : s.2 ≤ (evictF S M s x.li).1.2 ∧ (evictF S M s x.li).1.2 ≤ s.2 + 1 := evictF_u
              generalize evictF S M s x.li = r at hc hd hle huu
              have HD := Lib.hid hd
              have HL := Lib.hid hle
              have HU := Lib.hid huu
              clear hd hle huu
              clear hpX
              go_wp2_with fail
              refine hc.mono ?_
              clear hc
              rintro e w5 ⟨A1, n1, rfl, h1, h2, h3⟩
              have T1 := Lib.hid h1
              have G1 := Lib.hid h2
              have D1 := Lib.hid (HB.out.one h3)
              replace rX := h3.keep rX NX.out.1
              clear h1 h2 h3
              have oX := old rX
              go_wp2_with fail
              refine (HD.out w5 D1.out).mono ?_
              rintro e w6 ⟨A2, n2, rfl, h1, h2, h3⟩
              have T2 := Lib.hid h1
              replace T1 := Lib.hid (T1.out.keep h3 NO.out)
              replace HB := Lib.hid (HB.out.other G1.out h2 h3)
              replace rX := h3.keep rX NX.out.2
              clear h1 h2 h3 oX G1 D1
              have oX := old rX
              have tv1 : (r.2.2 != r.2.2) = false := by simp
              go_wp2_with fail
              refine (msgs_same A1 A2 _ n1 n2 r.2.1 _ T1.out.1 T2.out.1 rfl (by have := HL.out; omega)).mono ?_
              rintro e w7 ⟨rfl, c7⟩
              replace HB := Lib.hid (HB.out.keep c7)
              replace rX := c7.keep rX List.not_mem_nil
              clear c7 oX
              go_wp2_with fail
              go_meet
              case rel => exact ⟨r.1, HB.out, by have := HU.out; omega, rX⟩
          · as_aux_lemma =>
              have k0 : (x.kd == 0) = false := by simp; omega
              have k1 : (x.kd == 1) = false := by simp; omega
              have k2 : (x.kd == 2) = false := by simp; omega
              have k3 : (x.kd == 3) = false := by simp; omega
              have k4 : (x.kd == 4) = true := by simp; omega
              clear hkd
              have hc : ∀ w1, Agt W w1 g a b S M s → _ := fun w1 h => greach_any x.li w1 h (by omega)
              have hd : ∀ w1, RAg w1 p c d S M s → _ := fun w1 h => hreach_any x.li w1 h (by omega)
              have hle := (reachF_one HB.out.1.good HB.out.1.sane x.li).1
              have huu : s.2 ≤ (reachF S M s x.li).1.2 ∧ (reachF S M s x.li).1.2 ≤ s.2 + 1 := reachF_u
              generalize reachF S M s x.li = r at hc hd hle huu
              have HD := Lib.hid hd
              have HL := Lib.hid hle
              have HU := Lib.hid huu
              clear hd hle huu
              have HC := Lib.hid hc
              clear hc hpX
              go_wp2_with fail
              go_region_held3 (fun w' => w'.heap[pX]? = some (.cells (gsc x) 37 (0, 0))) (first | exact c6.keep (c5.keep (c4.keep rX NX.out.1) NX.out.2) List.not_mem_nil | exact c5.keep (c4.keep rX NX.out.1) NX.out.2 | exact c4.keep rX NX.out.1 | exact rX)
                (first
                  | (go_at_call 16; refine (HC.out _ (HB.out.keep ((Chg.refl [] w3).drew)).1).mono ?_; rintro e w' ⟨A1, n1, rfl, h1, h2, c4⟩)
                  | (go_at_call 17; refine (HD.out _ ((HB.out.keep ((Chg.refl [] w3).drew)).one c4)).mono ?_; rintro e w' ⟨A2, n2, rfl, h3, h4, c5⟩)
                  | (go_at_call 9; refine (msgs_same A1 A2 _ n1 n2 r.2 _ (h1.keep c5 NO.out).1 h3.1 rfl (by have := HL.out; omega)).mono ?_; rintro e w' ⟨rfl, c6⟩))
              all_goals
                have B9 := Lib.hid (((HB.out.keep ((Chg.refl [] w3).drew)).other h2 h4 c5).keep c6)
                have rX9 := c6.keep (c5.keep (c4.keep rX NX.out.1) NX.out.2) List.not_mem_nil
                clear h1 h2 h3 h4 c4 c5 c6 rX oX
                go_wp2_with fail
                go_meet
                case rel => exact ⟨r.1, B9.out, by have := HU.out; omega, rX9⟩
          · as_aux_lemma =>
              have k0 : (x.kd == 0) = false := by simp; omega
              have k1 : (x.kd == 1) = false := by simp; omega
              have k2 : (x.kd == 2) = false := by simp; omega
              have k3 : (x.kd == 3) = false := by simp; omega
              have k4 : (x.kd == 4) = false := by simp; omega
              clear hkd
              go_wp2_with fail
              go_meet
              case rel => exact ⟨s, HB.out, by omega, rX⟩
        case rest =>
         as_aux_lemma =>
          obtain ⟨s9, hb9, hu9, rX9⟩ := hcut
          have B9 := Lib.hid hb9
          clear hb9
          rename World => w9
          have rP9 := B9.out.2.1.2.1
          have hys : (live s9.1).length ≤ 64 := Nat.le_trans (live_le _) B9.out.1.good.len64
          have HS1 : ∀ w1, Agt W w1 g a b S M s9 → _ := fun w1 h => gslots_any w1 h
          have HS2 : ∀ w1, RAg w1 p c d S M s9 → _ := fun w1 h => rslots_ok c d S M s9.1 s9.2 w1 h.arr
          have HI1 : ∀ w1, Agt W w1 g a b S M s9 → _ := fun w1 h => gidle_any w1 h
          have HI2 : ∀ w1, RAg w1 p c d S M s9 → _ := fun w1 h => hidle_any w1 h
          have HO1 : ∀ w1, Agt W w1 g a b S M s9 → _ := fun w1 h => gowns_any x.li w1 h
          have HO2 : ∀ w1, RAg w1 p c d S M s9 → _ := fun w1 h => howns_any x.li w1 h
          generalize live s9.1 = ys at hys HS1 HS2
          generalize idleB s9.1 = bi at HI1 HI2
          generalize ownsB s9.1 x.li = bo at HO1 HO2
          replace HS1 := Lib.hid HS1
          replace HS2 := Lib.hid HS2
          replace HI1 := Lib.hid HI1
          replace HI2 := Lib.hid HI2
          replace HO1 := Lib.hid HO1
          replace HO2 := Lib.hid HO2
          have HYS := Lib.hid hys
          clear hys
          have tvi : (bi != bi) = false := by simp
          have tvo : (bo != bo) = false := by simp
          go_wp2_with fail
          go_region_held3 (fun w' => w'.heap[pX]? = some (.cells (gsc x) 37 (0, 0)) ∧ w'.heap[p]? = some (.cells #[.pointer (some ⟨c, 0, none⟩)] 60 (0, 0))) (first | exact ⟨T7.keep rX9 List.not_mem_nil, T7.keep rP9 List.not_mem_nil⟩ | exact ⟨T6.keep rX9 List.not_mem_nil, T6.keep rP9 List.not_mem_nil⟩ | exact ⟨T5.keep rX9 List.not_mem_nil, T5.keep rP9 List.not_mem_nil⟩ | exact ⟨T4.keep rX9 List.not_mem_nil, T4.keep rP9 List.not_mem_nil⟩ | exact ⟨T3.keep rX9 List.not_mem_nil, T3.keep rP9 List.not_mem_nil⟩ | exact ⟨T2.keep rX9 List.not_mem_nil, T2.keep rP9 List.not_mem_nil⟩ | exact ⟨T1.keep rX9 List.not_mem_nil, T1.keep rP9 List.not_mem_nil⟩ | exact ⟨rX9, rP9⟩)
            (first
              | (go_at_call 19; refine (HS1.out _ (B9.out.keep ((Chg.refl [] w9).drew)).1).mono ?_; rintro e w' ⟨AS, cS, rfl, hs1, c1⟩; have T1 := (Chg.refl [] w9).drew.trans c1)
              | (go_at_call 20; refine (HS2.out _ (B9.out.keep (T1)).2.1).mono ?_; rintro e w' ⟨AR, cR, rfl, hs2, c2⟩; have T2 := T1.trans c2)
              | (go_at_call 18; refine (same_ok AS AR _ cS cR ys _ (hs1.chg c2 (by simp)) hs2 rfl (by have := HYS.out; omega)).mono ?_; rintro e w' ⟨rfl, c3⟩; have T3 := T2.trans c3)
              | (go_at_call 21; refine (HI1.out _ (B9.out.keep (T3)).1).mono ?_; rintro e w' ⟨rfl, c4⟩; have T4 := T3.trans c4)
              | (go_at_call 22; refine (HI2.out _ (B9.out.keep (T4)).2.1).mono ?_; rintro e w' ⟨rfl, c5⟩; have T5 := T4.trans c5)
              | (go_at_call 23; refine (HO1.out _ (B9.out.keep (T5)).1).mono ?_; rintro e w' ⟨rfl, c6⟩; have T6 := T5.trans c6)
              | (go_at_call 24; refine (HO2.out _ (B9.out.keep (T6)).2.1).mono ?_; rintro e w' ⟨rfl, c7⟩; have T7 := T6.trans c7))
          all_goals
            have B8 := Lib.hid (B9.out.keep T7)
            clear rX9 rP9 hs1 hs2
            go_wp2_with fail
            go_roundw
            case rel => exact ⟨k + 1, s9, by omega, by go_num, B8.out, by omega⟩
            case measure => simp [intOf]; omega
      · obtain rfl : k = N := by omega
        go_wp2_with fail
        refine (awakes wr ⟨HT.out.1.keep HB.out.1.1.1 (by simp), HT.out.2.keep HB.out.1.1.1 (by simp)⟩).mono ?_
        rintro e w2 ⟨rfl, c2⟩
        go_wp2_with fail
        go_ret
        exact ⟨rfl, HB.out.1.1.1.trans c2⟩
  · have HG := Lib.hid hgood
    clear hgood
    go_enter Tryd.func3, Tryd.ntmps3
    try dsimp only [List.append]
    go_wp2_with fail
    refine (gnew_bad si wi W HG.out).mono ?_
    rintro e w1 ⟨rfl, rfl⟩
    go_wp2_with fail
    refine (hnew_bad si wi W HG.out).mono ?_
    rintro e w1 ⟨rfl, rfl⟩
    go_wp2_with fail
    go_loop [11] (fun i => i = .int .i64 0) (fun _ => 0)
    case atStart => rfl
    case round =>
      subst hrel
      rcases Nat.eq_zero_or_pos N with hz | hz
      · have t1 : decide (0 < N) = false := by simp; omega
        go_wp2_with fail
        refine (awakes W HT.out).mono ?_
        rintro e w2 ⟨rfl, c2⟩
        go_wp2_with fail
        go_ret
        exact ⟨rfl, c2⟩
      · have t1 : decide (0 < N) = true := by simpa using hz
        go_wp2_with fail
        refine (awakes W HT.out).mono ?_
        rintro e w2 ⟨rfl, c2⟩
        go_wp2_with fail
        go_ret
        exact ⟨rfl, c2⟩
end Go.Proofs.YtadeoflkppiflaaDoor
