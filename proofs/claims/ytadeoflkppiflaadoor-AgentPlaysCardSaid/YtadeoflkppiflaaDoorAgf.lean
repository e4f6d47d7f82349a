/- Agf: walked. No condition. -/
import Derived.Test.YtadeoflkppiflaaDoorAge
import Derived.Test.YtadeoflkppiflaaDoorAgm
import Derived.Test.YtadeoflkppiflaaDoorArrw
import Derived.Test.YtadeoflkppiflaaDoorMsgr
import Derived.BigQuiet
import Derived.Deep.RegionWith
import Derived.Deep.RegionHeld3
import Derived.Deep.QuietTactic
import Derived.Deep.Cut
import Derived.Deep.CutBlock
import Derived.Deep.CutRange
import Derived.Deep.DeepCutAuto
namespace Go.Proofs.YtadeoflkppiflaaDoor
open Go.RowKit
set_option linter.unusedVariables false
set_option maxHeartbeats 1000000
attribute [local go_sem ↓] append_appS copy_copS clear_clrS make_mkS cell_row frozen_row loadLine storeLine loadSlot storeSlot heap_drew heap_drewN heap_alloc heap_past heap_setCell heap_putRow vs_get slc_st slc_li slc_us slice_slS loadMsg storeMsg loadHas storeHas msc_kd msc_li msc_di msc_ke
attribute [local go_sem] rowCell_some rowFrozen_some rowHas_some rowIn_some rowPart_full rowPart_lit rowPut_full rowPut_lit rowSet_some size_putRow vs_size vs_one wideLine wideSlot run_loadS run_storeS run_appS run_copS run_clrS run_mkS loadW_at storeW_at fit_all fit_le one_int one_bool one_pointer one_slice allOne_list putRow_new ne_size1 ne_size2 ne_size3 ne_size4 zero8_length line_eq lit8 slc_size slc_one slc_part slc_in fold_slt fold_slc slc_set_us wideMsg wideHas run_slS msc_size msc_one msc_part msc_in fold_msc msc_putDi msc_putKe msc_putX msc_has ms4_lit ms4_k ms4_l ms4_e
attribute [local simp ↓] heap_drew heap_drewN heap_alloc heap_past heap_setCell heap_putRow
attribute [local simp] rowCell_some rowFrozen_some rowHas_some rowIn_some rowPart_full rowPart_lit rowPut_full rowPut_lit rowSet_some size_putRow vs_size fit_all putRow_new ne_size1 ne_size2 ne_size3 ne_size4 zero8_length slc_size msc_size msc_putDi msc_putKe msc_putX msc_has fit_le ms4_k ms4_l ms4_e


/-! ### What was told, kept -/
def Tol (a b : Nat) (w : World) (A : Option Addr) (ms : List Ms) : Prop := Sl w 12 A ms.length (cat Ms.enc ms) ∧ ∀ x, A = some x → x.block ∉ [a, b]
section
variable {a b : Nat} {w w' : World} {A : Option Addr} {ms : List Ms}
theorem Tol.of (h : Told w w' A ms) (ho : ∀ x ∈ [a, b], x < w.heap.size) : Tol a b w' A ms :=
  ⟨h.1, fun x hx hm => by have := h.2 x hx; have := ho _ hm; omega⟩
theorem Tol.keep (h : Tol a b w A ms) (hc : Chg [a, b] w w') : Tol a b w' A ms := ⟨h.1.chg hc h.2, h.2⟩
theorem Tol.keep0 (h : Tol a b w A ms) (hc : Chg [] w w') : Tol a b w' A ms := h.keep (hc.mono (by simp))
/-- A message that was told, cell by cell. -/
theorem Tol.msg (h : Tol a b w A ms) {i : Nat} {m : Ms} (hm : ms[i]? = some m) : ∃ b o cs t f, A = some ⟨b, o, none⟩ ∧ w.heap[b]? = some (.cells cs t f) ∧ cs[o + i * 12]? = some (.int .i64 m.kd) ∧ cs[o + i * 12 + 1]? = some (.int .i64 m.li) ∧ cs[o + i * 12 + 2]? = some (.bool m.di) ∧ cs[o + i * 12 + 3]? = some (.bool m.ke) ∧
    (∀ k : Nat, k < 8 → cs[o + i * 12 + 4 + k]? = some (.int .u64 (m.l.getD k 0))) ∧ rowIn (some (.cells cs t f)) (o + i * 12 + 4) 8 = true ∧ rowPart (some (.cells cs t f)) (o + i * 12 + 4) 8 = vs m.l := by
  have hi : i < ms.length := (List.getElem?_eq_some_iff.1 hm).1
  have hm8 := m.h
  obtain ⟨b, o, rfl⟩ := h.1.addr (by omega)
  obtain ⟨cs, t, f, hb, hc, hp⟩ := h.1.elem (by omega) hi (cat_part Ms.len hm)
  refine ⟨b, o, cs, t, f, rfl, hb, ?_, ?_, ?_, ?_, ?_, (hp 4 8 (by omega)).1, ?_⟩
  · have := hc 0 (by omega); rw [Nat.add_zero] at this; rw [this]; rfl
  · rw [hc 1 (by omega)]; rfl
  · rw [hc 2 (by omega)]; rfl
  · rw [hc 3 (by omega)]; rfl
  · intro k hk
    rw [show o + i * 12 + 4 + k = o + i * 12 + (4 + k) by omega, hc (4 + k) (by omega)]
    unfold Ms.enc
    rw [show 4 + k = k + 1 + 1 + 1 + 1 by omega, List.getElem?_cons_succ, List.getElem?_cons_succ, List.getElem?_cons_succ, List.getElem?_cons_succ, List.getElem?_map, List.getD_eq_getElem?_getD, List.getElem?_eq_getElem (by omega)]
    rfl
  · rw [(hp 4 8 (by omega)).2]
    unfold Ms.enc vs
    rw [List.drop_succ_cons, List.drop_succ_cons, List.drop_succ_cons, List.drop_succ_cons, List.drop_zero, List.take_of_length_le (by simp [hm8])]
end
/-- A message with words. -/
def ms5 (kd li : Int) (l : List Int) (h : l.length = 8) : Ms := ⟨kd, li, false, false, l, h⟩
theorem ms5_lit (kd li : Int) (l : List Int) (h : l.length = 8) : Array.foldl (fun cs y => cs.setIfInBounds (4 + y.snd) y.fst) (msc (ms4 kd li false false)) (vs l).zipIdx 0 8 = msc (ms5 kd li l h) := by
  rw [fold_put _ _ _ _ (by rw [vs_size, h]) (by rw [msc_size]; omega)]
  match l, h with
  | [a0, a1, a2, a3, a4, a5, a6, a7], _ => rfl

theorem gnew_ok (S N : Nat) (W w : World) (hc : Chg [] W w) (h : goodNew S N) : Calls Tryd.prog 5 #[.int .i64 S, .int .i64 N] w fun e w' => ∃ g a b, e = .returned (.tuple #[.pointer (some ⟨g, 0, none⟩), .int .i64 0]) ∧ Agt W w' g a b S N (List.replicate (S * N) sltZ, 0) ∧ Chg [] w w' := by
  go_enter Tryd.func5, Tryd.ntmps5
  try dsimp only [List.append]
  go_wp2_with fail
  refine (sys_new S N W w hc h).mono ?_
  rintro e w2 ⟨a, b, rfl, hs, c2⟩
  have HS := Lib.hid hs
  have HC := Lib.hid c2
  clear hs c2
  go_wp2_with fail
  go_ret2
  refine ⟨w2.heap.size, a, b, rfl, ⟨HS.out.keep ((Chg.refl [] w2).alloc _), by simp, HS.out.1.size, HS.out.new2 (Nat.le_refl _), Sane.new _, by show (0 : Int) ≤ 0; omega⟩, HC.out.alloc _⟩
theorem gnew_bad (s n : Int) (w : World) (h : ¬ goodNew s n) : Calls Tryd.prog 5 #[.int .i64 s, .int .i64 n] w fun e w' => e = .returned (.tuple #[.pointer none, .int .i64 1]) ∧ w = w' := by
  go_enter Tryd.func5, Tryd.ntmps5
  try dsimp only [List.append]
  go_wp2_with fail
  refine (anew_bad s n w h).mono ?_
  rintro e w2 ⟨rfl, rfl⟩
  go_wp2_with fail
  go_ret2
  exact ⟨rfl, rfl⟩

theorem gslots_len {W : World} {g a b S N : Nat} {s : Sta} (n : Nat) (hn : (live s.1).length = n) (w : World) (h : Agt W w g a b S N s) : Calls Tryd.prog 19 #[.pointer (some ⟨g, 0, none⟩)] w fun e w' => ∃ A c, e = .returned (.slice A n c) ∧ Chg [] w w' :=
  (gslots_any w h).mono fun e w' ⟨A, c, he, _, hc⟩ => ⟨A, c, by rw [he, hn], hc⟩

def wx0 : Sta := (List.replicate (1 * 1) sltZ, 0)
def wx1 : Sta := ([⟨4, 3, zl8, 1, rfl⟩], 1)
def wx2 : Sta := ([⟨2, 3, [0, 0, 7, 0, 0, 0, 0, 0], 2, rfl⟩], 2)
def wx3 : Sta := ([⟨2, 3, [0, 0, 7, 0, 0, 0, 0, 0], 3, rfl⟩], 3)
def wx4 : Sta := ([⟨3, 3, [0, 0, 9, 0, 0, 0, 0, 0], 4, rfl⟩], 4)
def wx5 : Sta := ([⟨1, 3, [0, 0, 9, 0, 0, 0, 0, 0], 5, rfl⟩], 5)
theorem wv1 : loadF 1 1 wx0 3 2 = (wx1, (0, false, [ms4 1 3 false false])) := by rfl
theorem wv2 : hearF 1 1 wx1 (ms5 9 3 [0, 0, 7, 0, 0, 0, 0, 0] rfl) = (wx2, ([], 0)) := by rfl
theorem wv3 : loadF 1 1 wx2 3 2 = (wx3, (7, true, [])) := by rfl
theorem wv4 : storeF 1 1 wx3 3 2 9 = (wx4, (true, [])) := by rfl
theorem wv5 : hearF 1 1 wx4 (ms4 13 3 false false) = (wx5, ([⟨7, 3, true, true, [0, 0, 9, 0, 0, 0, 0, 0], rfl⟩], 0)) := by rfl
theorem wv6 : idleB wx5.1 = true := by rfl
theorem wv7 : ownsB wx5.1 3 = false := by rfl
set_option maxRecDepth 100000 in
theorem awakes (W : World) (hT : Tabs W) : Calls Tryd.prog 4 #[] W fun e w' => e = .returned (.bool true) ∧ Chg [] W w' := by
  have HT := Lib.hid hT
  clear hT
  go_enter Tryd.func4, Tryd.ntmps4
  try dsimp only [List.append]
  go_wp2_with fail
  refine (gnew_ok 1 1 W W (Chg.refl _ _) (by decide)).mono ?_
  rintro e w1 ⟨g, a, b, rfl, h0, _⟩
  have H := Lib.hid h0
  clear h0
  replace H := Lib.hid (show Agt W w1 g a b 1 1 wx0 from H.out)
  go_wp2_with fail
  have hc := gload_any 3 2 w1 H.out (by first | decide | simp)
  rw [wv1] at hc
  refine hc.mono ?_
  clear hc
  rintro e w2 ⟨A, nA, rfl, h1, h2, h3⟩
  have TA := Lib.hid (Tol.of h1 H.out.old2)
  replace H := Lib.hid h2
  clear h1 h2 h3
  go_wp2_with fail
  have hc := ghear_any (ms5 9 3 [0, 0, 7, 0, 0, 0, 0, 0] rfl) w2 H.out (by first | decide | simp) HT.out
  rw [wv2] at hc
  refine hc.mono ?_
  clear hc
  rintro e w3 ⟨B, nB, rfl, h1, h2, h3⟩
  have TB := Lib.hid (Tol.of h1 H.out.old2)
  replace TA := Lib.hid (TA.out.keep h3)
  replace H := Lib.hid h2
  clear h1 h2 h3
  go_wp2_with fail
  have hc := gload_any 3 2 w3 H.out (by first | decide | simp)
  rw [wv3] at hc
  refine hc.mono ?_
  clear hc
  rintro e w4 ⟨C, nC, rfl, h1, h2, h3⟩
  have TC := Lib.hid (Tol.of h1 H.out.old2)
  replace TA := Lib.hid (TA.out.keep h3)
  replace H := Lib.hid h2
  clear h1 h2 h3
  go_wp2_with fail
  have hc := gstore_any 3 2 9 w4 H.out (by first | decide | simp)
  rw [wv4] at hc
  refine hc.mono ?_
  clear hc
  rintro e w5 ⟨D, nD, rfl, h1, h2, h3⟩
  have TD := Lib.hid (Tol.of h1 H.out.old2)
  replace TA := Lib.hid (TA.out.keep h3)
  replace H := Lib.hid h2
  clear h1 h2 h3
  go_wp2_with fail
  have hc := ghear_any (ms4 13 3 false false) w5 H.out (by first | decide | simp) HT.out
  rw [wv5] at hc
  refine hc.mono ?_
  clear hc
  rintro e w6 ⟨E, nE, rfl, h1, h2, h3⟩
  have TE := Lib.hid (Tol.of h1 H.out.old2)
  replace TA := Lib.hid (TA.out.keep h3)
  replace H := Lib.hid h2
  clear h1 h2 h3
  obtain ⟨bA, oA, csA, tA, fA, rfl, rwA, rA0, rA1, rA2, rA3, rA4, rA5, rA6⟩ := TA.out.msg (i := 0) rfl
  simp only [Nat.zero_mul, Nat.add_zero] at rA0 rA1 rA2 rA3 rA4 rA5 rA6
  clear rA4
  obtain ⟨bE, oE, csE, tE, fE, rfl, rwE, rE0, rE1, rE2, rE3, rE4, rE5, rE6⟩ := TE.out.msg (i := 0) rfl
  simp only [Nat.zero_mul, Nat.add_zero] at rE0 rE1 rE2 rE3 rE4 rE5 rE6
  have rEw2 := (rE4 2 (by omega)).trans (show _ = some (Value.int .u64 (9)) from rfl)
  clear rE4
  go_wp2_with fail
  refine (gidle_at true wv6 w6 H.out).mono ?_
  rintro e w7 ⟨rfl, c7⟩
  go_wp2_with fail
  refine (gowns_at 3 false wv7 w7 (H.out.keep c7)).mono ?_
  rintro e w8 ⟨rfl, c8⟩
  go_wp2_with fail
  go_ret
  exact ⟨rfl, H.out.1.1.trans (c7.trans c8)⟩
end Go.Proofs.YtadeoflkppiflaaDoor
