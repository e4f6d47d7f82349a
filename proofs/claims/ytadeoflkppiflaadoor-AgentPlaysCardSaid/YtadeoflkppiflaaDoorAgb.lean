/- Agb: walked. No condition. -/
import Derived.Test.YtadeoflkppiflaaDoorAga
import Derived.Test.YtadeoflkppiflaaDoorAgm
import Derived.Test.YtadeoflkppiflaaDoorArrw
import Derived.Test.YtadeoflkppiflaaDoorMsgr
import Derived.BigQuiet
import Derived.Deep.RegionWith
import Derived.Deep.RegionHeld3
import Derived.Deep.QuietTactic
import Derived.Deep.Cut
import Derived.Deep.CutBlock
import Derived.Deep.CutRange
import Derived.Deep.DeepCutAuto
namespace Go.Proofs.YtadeoflkppiflaaDoor
open Go.RowKit
set_option linter.unusedVariables false
set_option maxHeartbeats 1000000
attribute [local go_sem ↓] append_appS copy_copS clear_clrS make_mkS cell_row frozen_row loadLine storeLine loadSlot storeSlot heap_drew heap_drewN heap_alloc heap_past heap_setCell heap_putRow vs_get slc_st slc_li slc_us slice_slS loadMsg storeMsg loadHas storeHas msc_kd msc_li msc_di msc_ke
attribute [local go_sem] rowCell_some rowFrozen_some rowHas_some rowIn_some rowPart_full rowPart_lit rowPut_full rowPut_lit rowSet_some size_putRow vs_size vs_one wideLine wideSlot run_loadS run_storeS run_appS run_copS run_clrS run_mkS loadW_at storeW_at fit_all fit_le one_int one_bool one_pointer one_slice allOne_list putRow_new ne_size1 ne_size2 ne_size3 ne_size4 zero8_length line_eq lit8 slc_size slc_one slc_part slc_in fold_slt fold_slc slc_set_us wideMsg wideHas run_slS msc_size msc_one msc_part msc_in fold_msc msc_putDi msc_putKe msc_putX msc_has ms4_lit ms4_k ms4_l ms4_e
attribute [local simp ↓] heap_drew heap_drewN heap_alloc heap_past heap_setCell heap_putRow
attribute [local simp] rowCell_some rowFrozen_some rowHas_some rowIn_some rowPart_full rowPart_lit rowPut_full rowPut_lit rowSet_some size_putRow vs_size fit_all putRow_new ne_size1 ne_size2 ne_size3 ne_size4 zero8_length slc_size msc_size msc_putDi msc_putKe msc_putX msc_has fit_le ms4_k ms4_l ms4_e


/-! ### An agent whose memory is all new to the world W -/
def Agt (W w : World) (g a b S N : Nat) (s : Sta) : Prop :=
  ASys W w a b S N s.1 s.2 ∧ w.heap[g]? = some (.cells #[.pointer (some ⟨a, 0, none⟩)] 68 (0, 0)) ∧ W.heap.size ≤ g ∧ g ∉ [a, b] ∧ Sane s.1 ∧ 0 ≤ s.2
section
variable {W w w' : World} {g a b S N : Nat} {s s' : Sta} (h : Agt W w g a b S N s)
include h
theorem Agt.keep (hc : Chg [] w w') : Agt W w' g a b S N s := ⟨h.1.keep hc, hc.keep h.2.1 (by simp), h.2.2⟩
theorem Agt.arr : Arr w a b S N s.1 s.2 := h.1.2.1
theorem Agt.good : Good S N s.1 := h.1.good
theorem Agt.sane : Sane s.1 := h.2.2.2.2.1
theorem Agt.pos : 0 ≤ s.2 := h.2.2.2.2.2
theorem Agt.new3 {k : Nat} (hk : w.heap.size ≤ k) : k ∉ [g, a, b] := by
  have h1 := h.1.new2 hk
  have h2 := lt_heap h.2.1
  simp at h1 ⊢
  omega
theorem Agt.new2 {k : Nat} (hk : w.heap.size ≤ k) : k ∉ [a, b] := h.1.new2 hk
theorem Agt.apart {k : Nat} (hc : Chg [k] w w') (hk : k ∉ [g, a, b]) (hw : W.heap.size ≤ k) : Agt W w' g a b S N s := by
  have h1 : g ∉ [k] ∧ a ∉ [k] ∧ b ∉ [k] := by simp at hk ⊢; omega
  exact ⟨⟨h.1.1.trans' hc (by simp [hw]), h.1.2.1.keep hc h1.2.1 h1.2.2, h.1.2.2⟩, hc.keep h.2.1 h1.1, h.2.2⟩
theorem Agt.old2 : ∀ x ∈ [a, b], x < w.heap.size := by
  have h1 := lt_heap h.arr.1
  have h2 := lt_heap h.arr.2.1
  intro x hx
  simp at hx
  rcases hx with rfl | rfl <;> assumption
theorem Agt.step (hs : ASys W w' a b S N s'.1 s'.2) (hc : Chg [a, b] w w') (h1 : Sane s'.1) (h2 : 0 ≤ s'.2) : Agt W w' g a b S N s' :=
  ⟨hs, hc.keep h.2.1 h.2.2.2.1, h.2.2.1, h.2.2.2.1, h1, h2⟩
end
/-- Behind a call that tells messages among its values. -/
def AgRet (W w : World) (g a b S N : Nat) (s : Sta) (f : Value → Value) (ms : List Ms) : Ending → World → Prop := fun e w' =>
  ∃ A n, e = .returned (f (.slice A ms.length n)) ∧ Told w w' A ms ∧ Agt W w' g a b S N s ∧ Chg [a, b] w w'
/-- Behind a call of the array's. -/
theorem Agt.calls {W w : World} {g a b S N : Nat} {s s' : Sta} (h : Agt W w g a b S N s) {v : Value} {f : FuncId} {args : Array Value} (h1 : Sane s'.1) (h2 : 0 ≤ s'.2)
    (hc : Calls Tryd.prog f args w (ASysTo W w a b S N s'.1 s'.2 v)) : Calls Tryd.prog f args w fun e w' => e = .returned v ∧ Agt W w' g a b S N s' ∧ Chg [a, b] w w' :=
  hc.mono fun e w' ⟨he, hs, hc⟩ => ⟨he, h.step hs hc h1 h2, hc⟩
section
variable {W w : World} {g a b S N : Nat} {s : Sta} (h : Agt W w g a b S N s)
include h
theorem gset_any (hu : s.2 ≤ 1000000000) (li st : Int) (l : List Int) (hl : l.length = 8) : Calls Tryd.prog 38 #[.pointer (some ⟨a, 0, none⟩), .int .i64 li, .int .i64 st, .agg (vs l)] w
    fun e w' => e = .returned (.int .i64 (setVal S N s.1 li st)) ∧ Agt W w' g a b S N (setS S N s li st l hl) ∧ Chg [a, b] w w' :=
  h.calls (h.sane.set li st l hl) (Int.le_trans h.pos setS_u.1) (sys_set h.1 h.pos hu li st l hl)
theorem gsetz_any (hu : s.2 ≤ 1000000000) (li st : Int) : Calls Tryd.prog 38 #[.pointer (some ⟨a, 0, none⟩), .int .i64 li, .int .i64 st, .agg #[.int .u64 0, .int .u64 0, .int .u64 0, .int .u64 0, .int .u64 0, .int .u64 0, .int .u64 0, .int .u64 0]] w
    fun e w' => e = .returned (.int .i64 (setVal S N s.1 li st)) ∧ Agt W w' g a b S N (setS S N s li st zl8 rfl) ∧ Chg [a, b] w w' := gset_any h hu li st zl8 rfl
theorem gtouch_any (hu : s.2 ≤ 1000000000) (li : Int) : Calls Tryd.prog 31 #[.pointer (some ⟨a, 0, none⟩), .int .i64 li] w
    fun e w' => e = .returned (.tuple #[]) ∧ Agt W w' g a b S N (touchS s li) ∧ Chg [a, b] w w' :=
  h.calls (h.sane.touch li) (Int.le_trans h.pos touchS_u.1) (sys_touch h.1 h.pos hu li)
theorem gdrop_any (li : Int) : Calls Tryd.prog 42 #[.pointer (some ⟨a, 0, none⟩), .int .i64 li] w
    fun e w' => e = .returned (.bool (dropVal s.1 li)) ∧ Agt W w' g a b S N (dropS s li) ∧ Chg [a, b] w w' :=
  h.calls (h.sane.drop li) (Int.le_trans h.pos dropS_u.1) (sys_drop h.1 li)
theorem gfind_any (li : Int) : Calls Tryd.prog 29 #[.pointer (some ⟨a, 0, none⟩), .int .i64 li] w
    fun e w' => e = .returned (.tuple #[.agg (slc (findVal s.1 li)), .bool (dropVal s.1 li)]) ∧ Chg [] w w' := afind_any a b S N s.1 s.2 li w h.arr
theorem groom_any (li : Int) : Calls Tryd.prog 59 #[.pointer (some ⟨a, 0, none⟩), .int .i64 li] w
    fun e w' => e = .returned (.tuple #[.bool (roomFree S N s.1 li), .int .i64 (roomVic S N s.1 li)]) ∧ Chg [] w w' := aroom_any a b S N s.1 s.2 li w h.arr
end
theorem gslots_any {W : World} {g a b S N : Nat} {s : Sta}  (w : World) (h : Agt W w g a b S N s) : Calls Tryd.prog 19 #[.pointer (some ⟨g, 0, none⟩)] w (SlotsTold w (live s.1)) := by
  have H := Lib.hid h
  have rG := h.2.1
  clear h
  go_enter Tryd.func19, Tryd.ntmps19
  try dsimp only [List.append]
  go_wp2_with fail
  refine (aslots_ok a b S N s.1 s.2 w H.out.arr).mono ?_
  rintro e w2 ⟨A, c, rfl, hs, c2⟩
  have HS := Lib.hid hs
  have HC := Lib.hid c2
  clear hs c2
  go_wp2_with fail
  go_ret
  exact ⟨A, c, rfl, HS.out, HC.out⟩
theorem gowns_any {W : World} {g a b S N : Nat} {s : Sta} (li : Int) (w : World) (h : Agt W w g a b S N s) : Calls Tryd.prog 23 #[.pointer (some ⟨g, 0, none⟩), .int .i64 li] w fun e w' => e = .returned (.bool (ownsB s.1 li)) ∧ Chg [] w w' := by
  have H := Lib.hid h
  have rG := h.2.1
  clear h
  go_enter Tryd.func23, Tryd.ntmps23
  try dsimp only [List.append]
  go_wp2_with fail
  refine (gfind_any H.out li).mono ?_
  rintro e w2 ⟨rfl, c2⟩
  go_wp2_with (go_at_call 37; refine (gwrite_any _ _).mono ?_; rintro e w' ⟨rfl, rfl⟩)
  go_ret
  exact ⟨rfl, by (repeat' (first | with_reducible exact Chg.refl _ _ | with_reducible assumption | with_reducible refine Chg.drew ?_ | with_reducible refine Chg.drewN ?_ _ | with_reducible refine Chg.alloc ?_ _ | with_reducible refine Chg.putRow ?_ _ _ _ (.inr ?_) | with_reducible refine Chg.setCell ?_ _ _ _ (.inr ?_)  | with_reducible refine Chg.trans ?_ c2 | with_reducible refine Chg.trans (b := World.drew _) ?_ c2 | (show _ ≤ _; first | exact Nat.le_refl _ | omega | (simp; done))))⟩

theorem slt_whole {w wr : World} {l : List Nat} {n b o k : Nat} {ys : List Slt} {y : Slt} (h : Sl w 11 (some ⟨b, o, none⟩) n (cat Slt.enc ys)) (hc : Chg l w wr) (hb : b ∉ l) (hk : k < n) (hy : ys[k]? = some y) :
    ∃ c t f, wr.heap[b]? = some (.cells c t f) ∧ rowIn (some (.cells c t f)) (o + k * 11) 11 = true ∧ rowPart (some (.cells c t f)) (o + k * 11) 11 = slc y := by
  obtain ⟨cs, t, f, hb, _, hpa⟩ := (h.chg hc (by simpa using hb)).elem (by omega) hk (cat_part Slt.len hy)
  obtain ⟨r1, r2⟩ := hpa 0 11 (by omega)
  rw [Nat.add_zero] at r1 r2
  refine ⟨cs, t, f, hb, r1, ?_⟩
  rw [r2]
  simp [slc, Slt.len, List.take_of_length_le]
theorem idle_live (xs : List Slt) : idleB xs = (live xs).all (fun x => atRest x.st) := by
  unfold idleB live
  rw [List.all_filter]
  congr 1
  funext x
  unfold restB
  cases h : (x.st == 0) <;> simp [bne, h]
theorem gidle_any {W : World} {g a b S N : Nat} {s : Sta}  (w : World) (h : Agt W w g a b S N s) : Calls Tryd.prog 21 #[.pointer (some ⟨g, 0, none⟩)] w fun e w' => e = .returned (.bool (idleB s.1)) ∧ Chg [] w w' := by
  have H := Lib.hid h
  have rG := h.2.1
  clear h
  have hsl := gslots_any w H.out
  rw [idle_live]
  obtain ⟨ys, hys⟩ : ∃ ys, ys = live s.1 := ⟨_, rfl⟩
  rw [← hys] at hsl ⊢
  go_enter Tryd.func21, Tryd.ntmps21
  try dsimp only [List.append]
  go_wp2_with fail
  refine hsl.mono ?_
  rintro e w2 ⟨A, cp, rfl, hs, c2⟩
  have hl : ys.length ≤ 64 := by rw [hys]; exact Nat.le_trans (live_le _) H.out.good.len64
  have HS := Lib.hid hs
  have HC := Lib.hid c2
  obtain ⟨n, hn⟩ : ∃ n, n = ys.length := ⟨_, rfl⟩
  rw [← hn] at HS hl ⊢
  have HN := Lib.hid hn
  clear hs c2 hys rG hn hsl
  go_wp2_with fail
  go_loopw [8] (fun i wr => ∃ k : Nat, k ≤ n ∧ i = .int .i64 k ∧ Chg [] w2 wr ∧ ∀ x ∈ ys.take k, atRest x.st = true) (fun i _ => n - (intOf i).toNat)
  case atStart => exact ⟨0, by omega, rfl, Chg.refl _ _, by simp⟩
  case round =>
    obtain ⟨k, hk, rfl, hc, hall⟩ := hrel
    by_cases hlt : k < n
    · obtain ⟨b1, o1, rfl⟩ := HS.out.addr (by omega)
      obtain ⟨y, hy⟩ : ∃ y, ys[k]? = some y := ⟨ys[k]'(by rw [← HN.out]; exact hlt), List.getElem?_eq_getElem _⟩
      obtain ⟨cs, tt, f, hb, i1, i2⟩ := slt_whole HS.out hc (by simp) hlt hy
      have g1 : (k : Int) < (n : Int) := by omega
      have g0 : (0 : Int) ≤ (k : Int) := by omega
      have g2 : (n : Int) ≤ 64 := by omega
      have HA := Lib.hid hall
      have HK := Lib.hid hc
      have ht := List.take_succ_eq_append_getElem (by rw [← HN.out]; exact hlt : k < ys.length)
      rw [show ys[k]'(by rw [← HN.out]; exact hlt) = y from (List.getElem?_eq_some_iff.1 hy).2] at ht
      have HT := Lib.hid ht
      have HY := Lib.hid hy
      clear hall hc ht hy
      cases hr : atRest y.st
      · go_wp2_with (go_at_call 54; refine (grest_at _ _ hr _).mono ?_; rintro e w' ⟨rfl, rfl⟩)
        go_ret
        refine ⟨?_, (HC.out.trans HK.out).alloc _⟩
        have : ys.all (fun x => atRest x.st) = false := by
          rw [List.all_eq_false]
          exact ⟨y, List.mem_of_getElem? HY.out, by simp [hr]⟩
        rw [this]
        rfl
      · go_wp2_with (go_at_call 54; refine (grest_at _ _ hr _).mono ?_; rintro e w' ⟨rfl, rfl⟩)
        go_roundw
        case rel =>
          refine ⟨k + 1, by omega, by go_num, HK.out.alloc _, ?_⟩
          rw [HT.out]
          intro x hx
          rcases List.mem_append.1 hx with h1 | h1
          · exact HA.out x h1
          · rw [List.mem_singleton.1 h1]; exact hr
        case measure => simp [intOf]; omega
    · obtain rfl : k = n := by omega
      have HA := Lib.hid hall
      have HK := Lib.hid hc
      clear hall hc
      go_wp2_with fail
      go_ret
      refine ⟨?_, HC.out.trans HK.out⟩
      have : ys.all (fun x => atRest x.st) = true := by
        rw [List.all_eq_true]
        intro x hx
        exact HA.out x (by rw [HN.out, List.take_length]; exact hx)
      rw [this]
      rfl
theorem gidle_at {W : World} {g a b S N : Nat} {s : Sta} (v : Bool) (hv : idleB s.1 = v) (w : World) (h : Agt W w g a b S N s) : Calls Tryd.prog 21 #[.pointer (some ⟨g, 0, none⟩)] w fun e w' => e = .returned (.bool v) ∧ Chg [] w w' := hv ▸ gidle_any w h
theorem gowns_at {W : World} {g a b S N : Nat} {s : Sta} (li : Int) (v : Bool) (hv : ownsB s.1 li = v) (w : World) (h : Agt W w g a b S N s) : Calls Tryd.prog 23 #[.pointer (some ⟨g, 0, none⟩), .int .i64 li] w fun e w' => e = .returned (.bool v) ∧ Chg [] w w' := hv ▸ gowns_any li w h
end Go.Proofs.YtadeoflkppiflaaDoor
