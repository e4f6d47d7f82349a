/- What is told, compared; DirAsks, DirAnswers: walked. No condition. -/
import Derived.Test.YtkaabiiedfkaaaaDoorDirw
import Derived.Test.YtkaabiiedfkaaaaDoorMsge
import Derived.Test.YtkaabiiedfkaaaaDoorDirx
import Derived.BigQuiet
import Derived.Deep.RegionWith
import Derived.Deep.RegionHeld3
import Derived.Deep.QuietTactic
import Derived.Deep.Cut
import Derived.Deep.CutBlock
import Derived.Deep.CutRange
import Derived.Deep.DeepCutAuto
namespace Go.Proofs.YtkaabiiedfkaaaaDoor
open Go.RowKit
set_option linter.unusedVariables false
set_option maxHeartbeats 1000000
attribute [local go_sem ↓] append_appS copy_copS clear_clrS make_mkS slice_slS cell_row frozen_row loadLine storeLine loadMsg storeMsg heap_drew heap_drewN heap_alloc heap_past heap_setCell heap_putRow vs_get msc_kd msc_li msc_di msc_ke
attribute [local go_sem] rowCell_some rowFrozen_some rowHas_some rowIn_some rowPart_full rowPart_lit rowPut_full rowPut_lit rowSet_some size_putRow vs_size vs_one wideLine wideMsg run_loadS run_storeS run_appS run_copS run_clrS run_mkS run_slS loadW_at storeW_at fit_all fit_le one_int one_bool one_pointer one_slice allOne_list putRow_new ne_size1 ne_size2 ne_size3 ne_size4 zero8_length line_eq lit8 msc_size msc_one msc_part msc_in fold_msc
attribute [local simp ↓] heap_drew heap_drewN heap_alloc heap_past heap_setCell heap_putRow
attribute [local simp] rowCell_some rowFrozen_some rowHas_some rowIn_some rowPart_full rowPart_lit rowPut_full rowPut_lit rowSet_some size_putRow vs_size fit_all putRow_new ne_size1 ne_size2 ne_size3 ne_size4 zero8_length msc_size
attribute [local go_sem ↓] ec_he ec_di ec_ow ec_sh ec_bu ec_by ec_wa sc_to
attribute [local go_sem] mi_and mi_or mi_not mi_beq0 mi_bne0 ec_size ec_one ec_part ec_in ec_has ec_setDi ec_setOw ec_setSh ec_setBu ec_setBy ec_setWa ec_setSh0 ec_setWa0 ec_putM sc_size sc_one sc_part sc_in
attribute [local simp] ec_size sc_size ec_setDi ec_setOw ec_setSh ec_setBu ec_setBy ec_setWa ec_setSh0 ec_setWa0 ec_putM
attribute [local go_sem ↓] loadEn storeEn loadSd storeSd en_z0
attribute [local go_sem] wideEn wideSd fold_sc size11 putRow_newB putRow_newC ms5_lit
attribute [local simp] en_z0 putRow_newB putRow_newC fit_le ec_has
attribute [local go_sem ↓] loadEnR storeEnR loadSdR storeSdR
attribute [local go_sem] wideEnR wideSdR
attribute [local go_sem] ec_setHe ec_foldL


attribute [local go_sem ↓] msg_same er_eq
theorem sends_same (A B : Option Addr) (n c c' : Nat) (xs : List Sd) (w : World) (h1 : Sl w 13 A n (cat Sd.enc xs)) (h2 : Sl w 13 B n (cat Sd.enc xs)) (hl : n = xs.length) (hn : n ≤ 100000) :
    Calls Tryd.prog 17 #[.slice A n c, .slice B n c'] w fun e w' => e = .returned (.bool true) ∧ Chg [] w w' := by
  have H1 := Lib.hid h1
  have H2 := Lib.hid h2
  have HL := Lib.hid hl
  clear h1 h2 hl
  go_enter Tryd.func17, Tryd.ntmps17
  try dsimp only [List.append]
  have tn : ((n : Int) != (n : Int)) = false := by simp
  go_wp2
  go_loopw [5] (fun i wr => ∃ k : Nat, k ≤ n ∧ i = .int .i64 k ∧ Chg [] w wr) (fun i _ => n - (intOf i).toNat)
  case atStart => exact ⟨0, by omega, rfl, Chg.refl _ _⟩
  case round =>
    obtain ⟨k, hk, rfl, hc⟩ := hrel
    by_cases hlt : k < n
    · obtain ⟨y, hy⟩ : ∃ y, xs[k]? = some y := ⟨xs[k]'(by rw [← HL.out]; exact hlt), List.getElem?_eq_getElem _⟩
      obtain ⟨b, o, cs, t, f, rfl, hb, i0, _, _, hp⟩ := (H1.out.chg hc (by simp)).sd hy
      obtain ⟨b', o', cs', t', f', rfl, hb', j0, _, _, hp'⟩ := (H2.out.chg hc (by simp)).sd hy
      have e12 : (((Sd.enc y).drop 1).take 12).toArray = msc y.m := by simp [Sd.enc, msc, Ms.len, List.take_of_length_le]
      obtain ⟨r1, r2⟩ := hp 1 12 (by omega)
      obtain ⟨s1, s2⟩ := hp' 1 12 (by omega)
      rw [e12] at r2 s2
      have g1 : (k : Int) < (n : Int) := by omega
      have g0 : (0 : Int) ≤ (k : Int) := by omega
      have g2 : (n : Int) ≤ 100000 := by omega
      have t1 : (y.to != y.to) = false := by simp
      have HC := Lib.hid hc
      clear hy hc hp hp' e12
      go_wp2
      go_quiet (fail)
      go_wp2
      go_roundw
      case rel => exact ⟨k + 1, by omega, by go_num, HC.out.drewN _⟩
      case measure => simp [intOf]; omega
    · have : k = n := by omega
      subst this
      go_wp2
      go_ret
      exact ⟨rfl, hc⟩
theorem same_any (x : En) (w : World) : Calls Tryd.prog 16 #[.agg (ec x), .agg (ec x)] w fun e w' => e = .returned (.bool true) ∧ Chg [] w w' := by
  go_enter Tryd.func16, Tryd.ntmps16
  try dsimp only [List.append]
  go_wp2_with fail
  refine gen_world2 (w := w) (b1 := w.heap.size) (x1 := .cells (ec (x)) 26 (0, 0)) (b2 := w.heap.size + 1) (x2 := .cells (ec (x)) 33 (0, 0)) (by (repeat' (first | with_reducible exact Chg.refl _ _ | with_reducible assumption | with_reducible refine Chg.drew ?_ | with_reducible refine Chg.drewN ?_ _ | with_reducible refine Chg.alloc ?_ _ | with_reducible refine Chg.putRow ?_ _ _ _ (.inr ?_) | with_reducible refine Chg.setCell ?_ _ _ _ (.inr ?_)  | (show _ ≤ _; first | exact Nat.le_refl _ | omega | (simp; done))))) (by simp) (by simp) fun w1 C1 rE rF => ?_
  have oE := old rE
  have oF := old rF
  have hx : ∀ y : Aft w1.heap.size w1, y.w.heap[w.heap.size]? = some (.cells (ec (x)) 26 (0, 0)) := fun y => (y.block oE.lt).trans rE
  have hf : ∀ y : Aft w1.heap.size w1, y.w.heap[w.heap.size + 1]? = some (.cells (ec (x)) 33 (0, 0)) := fun y => (y.block oF.lt).trans rF
  refine wp_region_aft w1.heap.size (by kernel_rfl) (by kernel_rfl) ?_
  repeat (go_big_quiet_step (first
    | (go_at_call 11; exact calls_aftR (Nat.le_refl _) (down_any _ _))))
  refine wpQuiet_nil ?_
  rintro _ ⟨y, rfl⟩
  go_wp2_with fail
  go_ret
  exact ⟨by simp, C1.trans (Below.chg y.below (Nat.le_refl _))⟩
theorem tell_len (s : Mk) (m : Ms) : (tellL s m).length ≤ 8 := by unfold tellL; rw [List.length_map]; exact cores_len s

theorem new_at (w : World) (o : Obj) : (w.alloc o).heap[w.heap.size]? = some o := by simp
def NewB (w3 : World) (r : (En × List Sd) × Int) (p s y : Value) (wx : World) : Prop := ∃ pB A2 n2, p = .pointer (some ⟨pB, 0, none⟩) ∧ s = .slice A2 r.1.2.length n2 ∧ y = .int .i64 r.2 ∧ wx.heap[pB]? = some (.cells (ec (r.1.1)) 33 (0, 0)) ∧ Sl wx 13 A2 r.1.2.length (cat Sd.enc r.1.2) ∧ Chg [] w3 wx
theorem put_new {w3 w5 : World} {r : (En × List Sd) × Int} {A2 : Option Addr} {n2 : Nat} {k : Nat} (hk : w3.heap.size ≤ k) (hA : ∀ a, A2 = some a → k < a.block) (cN : Chg [] w3 w5) (rY : w5.heap[k]? = some (.cells (ec (enZ)) 33 (0, 0))) (hs2 : Sl w5 13 A2 r.1.2.length (cat Sd.enc r.1.2)) :
    NewB w3 r (.pointer (some ⟨k, 0, none⟩)) (.slice A2 r.1.2.length n2) (.int .i64 r.2) (putRow w5 k 0 (ec r.1.1)) :=
  ⟨k, A2, n2, rfl, rfl, rfl, put_row rY (by rw [ec_size, ec_size]), hs2.chg ((Chg.refl [k] _).putRow k 0 _ (.inl (by simp))) (by intro a ha; have := hA a ha; simp; omega), cN.putRow _ _ _ (.inr hk)⟩
theorem put_newA {w3 w4 w5 : World} {r : (En × List Sd) × Int} {A2 : Option Addr} {n2 : Nat} {o : Obj} (cO : Chg [] w3 w4) (cN : Chg [] w3 w5) (rY : w5.heap[w4.heap.size]? = some (.cells (ec (enZ)) 33 (0, 0))) (hs2 : Sl w5 13 A2 r.1.2.length (cat Sd.enc r.1.2)) (hA2 : ∀ a, A2 = some a → (w4.alloc o).heap.size ≤ a.block) :
    NewB w3 r (.pointer (some ⟨w4.heap.size, 0, none⟩)) (.slice A2 r.1.2.length n2) (.int .i64 r.2) (putRow w5 w4.heap.size 0 (ec r.1.1)) :=
  put_new cO.size (by intro a ha; have := hA2 a ha; simp at this; omega) cN rY hs2
theorem put_newB {w3 w4 w5 : World} {r : (En × List Sd) × Int} {A2 : Option Addr} {n2 : Nat} {o : Obj} (cN : Chg [] w3 w5) (rZ : w4.heap[w3.heap.size]? = some o) (rY : w5.heap[w3.heap.size]? = some (.cells (ec (enZ)) 33 (0, 0))) (hs2 : Sl w5 13 A2 r.1.2.length (cat Sd.enc r.1.2)) (hA2 : ∀ a, A2 = some a → w4.heap.size ≤ a.block) :
    NewB w3 r (.pointer (some ⟨w3.heap.size, 0, none⟩)) (.slice A2 r.1.2.length n2) (.int .i64 r.2) (putRow w5 w3.heap.size 0 (ec r.1.1)) :=
  put_new (Nat.le_refl _) (by intro a ha; have := hA2 a ha; have := lt_heap rZ; omega) cN rY hs2

theorem ans_len (x : En) (c : Int) (m : Ms) : (ansE x c m).1.2.length ≤ 8 := by
  unfold ansE settledE sharedE ownedE
  split
  · split
    · split
      · simp
      · split
        · exact tell_len _ _
        · split
          · exact tell_len _ _
          · simp
    · simp
  · simp
theorem pushed_len (x : En) : (pushedE x).1.2.length ≤ 8 := by
  unfold pushedE
  split
  · exact tell_len _ _
  · simp
theorem dansw_any (x : En) (c : Int) (m : Ms) (w : World) (ht : Tab w) : Calls Tryd.prog 4 #[.agg (ec x), .int .i64 c, .agg (msc m)] w fun e w' => e = .returned (.bool true) ∧ Chg [] w w' := by
  have HT := Lib.hid ht
  clear ht
  go_enter Tryd.func4, Tryd.ntmps4
  try dsimp only [List.append]
  go_wp2_with fail
  refine gen_calls2 (w := w) (b1 := w.heap.size) (x1 := .cells (ec (x)) 26 (0, 0)) (b2 := w.heap.size + 1) (x2 := .cells (msc m) 28 (0, 0)) (by (repeat' (first | with_reducible exact Chg.refl _ _ | with_reducible assumption | with_reducible refine Chg.drew ?_ | with_reducible refine Chg.drewN ?_ _ | with_reducible refine Chg.alloc ?_ _ | with_reducible refine Chg.putRow ?_ _ _ _ (.inr ?_) | with_reducible refine Chg.setCell ?_ _ _ _ (.inr ?_)  | (show _ ≤ _; first | exact Nat.le_refl _ | omega | (simp; done))))) (by simp [*]) (by simp [*]) fun w1 c1 rE rM => ?_
  have C1 := Lib.hid c1
  have oE := old rE
  have oM := old rM
  have hc := danswer_any x c m w1 (HT.out.keep c1 (by simp))
  have HB := fun W (_ : Old W 0) => ranswer_any x c m W
  have HP := fun W h => dpushed_any x W h
  have HQ := fun W => rpushed_any x W
  have hl := ans_len x c m
  have hl' := pushed_len x
  generalize ansE x c m = r at hc HB hl
  generalize pushedE x = q at HP HQ hl'
  have r2 : (r.2 == r.2) = true := by simp
  have q2 : (q.2 == q.2) = true := by simp
  refine hc.mono ?_
  clear hc c1
  rintro e w2 ⟨A1, n1, rfl, hs1, _, c2⟩
  have S1 := Lib.hid hs1
  clear hs1
  replace rE := c2.keep rE (by simp)
  replace rM := c2.keep rM (by simp)
  have C2 := Lib.hid (C1.out.trans c2)
  clear c2 C1 oE oM
  have oE := old rE
  have oM := old rM
  go_wp2_with fail
  have cb := (Chg.refl [] w2).alloc (.cells (ec (r.1.1)) 26 (0, 0))
  have rA : (w2.alloc (.cells (ec (r.1.1)) 26 (0, 0))).heap[w2.heap.size]? = some (.cells (ec (r.1.1)) 26 (0, 0)) := by simp
  replace rE := cb.keep rE (by simp)
  replace rM := cb.keep rM (by simp)
  replace S1 := Lib.hid (S1.out.chg cb (by simp))
  have C3 := Lib.hid (C2.out.trans cb)
  clear cb C2 oE oM
  generalize w2.heap.size = pA at rA ⊢
  generalize w2.alloc (.cells (ec (r.1.1)) 26 (0, 0)) = w3 at rA C3 rE rM S1 ⊢
  have oE := old rE
  have oM := old rM
  have oA := old rA
  have o0 : Old w3 0 := (HT.out.old).chg C3.out
  go_upto_region 2 with fail
  go_cut [10, 11, 12] (fun p s y wx => ∃ pB A2 n2, p = .pointer (some ⟨pB, 0, none⟩) ∧ s = .slice A2 r.1.2.length n2 ∧ y = .int .i64 r.2 ∧ wx.heap[pB]? = some (.cells (ec (r.1.1)) 33 (0, 0)) ∧ Sl wx 13 A2 r.1.2.length (cat Sd.enc r.1.2) ∧ Chg [] w3 wx)
  case first =>
    go_region_held3 (fun w' => w'.heap[w.heap.size]? = some (.cells (ec (x)) 26 (0, 0)) ∧ w'.heap[w.heap.size + 1]? = some (.cells (msc m) 28 (0, 0))) (exact ⟨Chg.keep (l := []) (w := w3) (by (repeat' (first | with_reducible exact cN | with_reducible exact cO | with_reducible exact Chg.refl _ _ | with_reducible refine Chg.alloc ?_ _ | with_reducible refine Chg.drew ?_ | with_reducible refine Chg.putRow ?_ _ _ _ (.inr ?_) | with_reducible exact Chg.size cO | with_reducible exact Nat.le_refl _))) rE (by simp), Chg.keep (l := []) (w := w3) (by (repeat' (first | with_reducible exact cN | with_reducible exact cO | with_reducible exact Chg.refl _ _ | with_reducible refine Chg.alloc ?_ _ | with_reducible refine Chg.drew ?_ | with_reducible refine Chg.putRow ?_ _ _ _ (.inr ?_) | with_reducible exact Chg.size cO | with_reducible exact Nat.le_refl _))) rM (by simp)⟩)
      (first
        | (go_at_call 11; refine (down_any _ _).mono ?_; rintro e w4 ⟨rfl, c4⟩; (first | (have cO : Chg [] w3 w4 := Chg.trans (Chg.drew (Chg.refl [] w3)) c4) | (have cO : Chg [] w3 w4 := Chg.trans (Chg.alloc (Chg.drew (Chg.refl [] w3)) _) c4)); (first | (have rZ : w4.heap[w3.heap.size]? = some (.cells (ec (enZ)) 33 (0, 0)) := c4.keep (new_at w3.drew _) List.not_mem_nil) | (have rZ : True := trivial)))
        | (go_at_call 22; refine (HB _ ?_).mono ?_; (first | exact Old.chgL o0 cO | exact Old.chgL o0 (Chg.alloc cO _)); rintro e w5 ⟨A2, n2, rfl, hs2, hA2, c5⟩; (first | (have cN : Chg [] w3 w5 := Chg.trans cO c5) | (have cN : Chg [] w3 w5 := Chg.trans (Chg.alloc cO _) c5)); (first | (have rY : w5.heap[w3.heap.size]? = some (.cells (ec (enZ)) 33 (0, 0)) := c5.keep rZ List.not_mem_nil) | (have rY : w5.heap[w4.heap.size]? = some (.cells (ec (enZ)) 33 (0, 0)) := c5.keep (new_at w4 _) List.not_mem_nil) | (have rY : True := trivial))))
    all_goals
      go_wp2_with fail
      go_meet
      case rel =>
        first
          | exact ⟨_, A2, n2, rfl, rfl, rfl, by simp, hs2.chg ((Chg.refl [] _).alloc _) (by simp), cN.alloc _⟩
          | exact put_newA cO cN rY hs2 hA2
          | exact put_newB cN rZ rY hs2 hA2
  case rest =>
  obtain ⟨pB, A2, n2, rfl, rfl, rfl, rB, hs2, cW⟩ := hcut
  have S2 := Lib.hid hs2
  clear hs2 o0
  generalize hw6 : wc = w6 at *
  clear hw6
  replace rE := cW.keep rE (by simp)
  replace rM := cW.keep rM (by simp)
  replace rA := cW.keep rA (by simp)
  replace S1 := Lib.hid (S1.out.chg cW (by simp))
  have C6 := Lib.hid (C3.out.trans cW)
  clear cW C3 oE oM oA
  have oE := old rE
  have oM := old rM
  have oA := old rA
  have oB := old rB
  go_wp2_with fail
  refine (HP w6 ((HT.out.old).chg C6.out)).mono ?_
  rintro e w7 ⟨A3, n3, rfl, hs3, _, c7⟩
  have S3 := Lib.hid hs3
  clear hs3
  replace rE := c7.keep rE (by simp)
  replace rM := c7.keep rM (by simp)
  replace rA := c7.keep rA (by simp)
  replace rB := c7.keep rB (by simp)
  replace S1 := Lib.hid (S1.out.chg c7 (by simp))
  replace S2 := Lib.hid (S2.out.chg c7 (by simp))
  have C7 := Lib.hid (C6.out.trans c7)
  clear c7 C6 oE oM oA oB
  have oE := old rE
  have oM := old rM
  have oA := old rA
  have oB := old rB
  go_wp2_with fail
  have cb := (Chg.refl [] w7).alloc (.cells (ec (q.1.1)) 26 (0, 0))
  have rD : (w7.alloc (.cells (ec (q.1.1)) 26 (0, 0))).heap[w7.heap.size]? = some (.cells (ec (q.1.1)) 26 (0, 0)) := by simp
  replace rE := cb.keep rE (by simp)
  replace rM := cb.keep rM (by simp)
  replace rA := cb.keep rA (by simp)
  replace rB := cb.keep rB (by simp)
  replace S1 := Lib.hid (S1.out.chg cb (by simp))
  replace S2 := Lib.hid (S2.out.chg cb (by simp))
  replace S3 := Lib.hid (S3.out.chg cb (by simp))
  have C8 := Lib.hid (C7.out.trans cb)
  clear cb C7 oE oM oA oB
  generalize w7.heap.size = pD at rD ⊢
  generalize w7.alloc (.cells (ec (q.1.1)) 26 (0, 0)) = w8 at rD C8 rE rM rA rB S1 S2 S3 ⊢
  have oE := old rE
  have oM := old rM
  have oA := old rA
  have oB := old rB
  have oD := old rD
  refine (down_any x w8).mono ?_
  rintro e w9 ⟨rfl, c9⟩
  replace rE := c9.keep rE (by simp)
  replace rM := c9.keep rM (by simp)
  replace rA := c9.keep rA (by simp)
  replace rB := c9.keep rB (by simp)
  replace rD := c9.keep rD (by simp)
  replace S1 := Lib.hid (S1.out.chg c9 (by simp))
  replace S2 := Lib.hid (S2.out.chg c9 (by simp))
  replace S3 := Lib.hid (S3.out.chg c9 (by simp))
  have C9 := Lib.hid (C8.out.trans c9)
  clear c9 C8 oE oM oA oB oD
  have oE := old rE
  have oM := old rM
  have oA := old rA
  have oB := old rB
  have oD := old rD
  go_wp2_with fail
  refine (HQ w9).mono ?_
  rintro e w10 ⟨A4, n4, rfl, hs4, _, c10⟩
  have S4 := Lib.hid hs4
  clear hs4
  replace rE := c10.keep rE (by simp)
  replace rM := c10.keep rM (by simp)
  replace rA := c10.keep rA (by simp)
  replace rB := c10.keep rB (by simp)
  replace rD := c10.keep rD (by simp)
  replace S1 := Lib.hid (S1.out.chg c10 (by simp))
  replace S2 := Lib.hid (S2.out.chg c10 (by simp))
  replace S3 := Lib.hid (S3.out.chg c10 (by simp))
  have C10 := Lib.hid (C9.out.trans c10)
  clear c10 C9 oE oM oA oB oD
  have oE := old rE
  have oM := old rM
  have oA := old rA
  have oB := old rB
  have oD := old rD
  go_wp2_with fail
  have cb := (Chg.refl [] w10).alloc (.cells (ec (q.1.1)) 33 (0, 0))
  have rF : (w10.alloc (.cells (ec (q.1.1)) 33 (0, 0))).heap[w10.heap.size]? = some (.cells (ec (q.1.1)) 33 (0, 0)) := by simp
  replace rE := cb.keep rE (by simp)
  replace rM := cb.keep rM (by simp)
  replace rA := cb.keep rA (by simp)
  replace rB := cb.keep rB (by simp)
  replace rD := cb.keep rD (by simp)
  replace S1 := Lib.hid (S1.out.chg cb (by simp))
  replace S2 := Lib.hid (S2.out.chg cb (by simp))
  replace S3 := Lib.hid (S3.out.chg cb (by simp))
  replace S4 := Lib.hid (S4.out.chg cb (by simp))
  have C11 := Lib.hid (C10.out.trans cb)
  clear cb C10 oE oM oA oB oD
  generalize w10.heap.size = pF at rF ⊢
  generalize w10.alloc (.cells (ec (q.1.1)) 33 (0, 0)) = w11 at rF C11 rE rM rA rB rD S1 S2 S3 S4 ⊢
  have oE := old rE
  have oM := old rM
  have oA := old rA
  have oB := old rB
  have oD := old rD
  have oF := old rF
  refine (same_any r.1.1 w11).mono ?_
  rintro e w12 ⟨rfl, c12⟩
  replace rD := c12.keep rD (by simp)
  replace rF := c12.keep rF (by simp)
  replace S1 := Lib.hid (S1.out.chg c12 (by simp))
  replace S2 := Lib.hid (S2.out.chg c12 (by simp))
  replace S3 := Lib.hid (S3.out.chg c12 (by simp))
  replace S4 := Lib.hid (S4.out.chg c12 (by simp))
  have C12 := Lib.hid (C11.out.trans c12)
  clear c12 C11 oD oF
  have oD := old rD
  have oF := old rF
  go_wp2_with fail
  refine (sends_same _ _ _ _ _ _ w12 S1.out S2.out rfl (by omega)).mono ?_
  rintro e w13 ⟨rfl, c13⟩
  replace rD := c13.keep rD (by simp)
  replace rF := c13.keep rF (by simp)
  replace S3 := Lib.hid (S3.out.chg c13 (by simp))
  replace S4 := Lib.hid (S4.out.chg c13 (by simp))
  have C13 := Lib.hid (C12.out.trans c13)
  clear c13 C12 oD oF
  have oD := old rD
  have oF := old rF
  go_wp2_with fail
  refine (same_any q.1.1 w13).mono ?_
  rintro e w14 ⟨rfl, c14⟩
  replace S3 := Lib.hid (S3.out.chg c14 (by simp))
  replace S4 := Lib.hid (S4.out.chg c14 (by simp))
  have C14 := Lib.hid (C13.out.trans c14)
  clear c14 C13 
  go_wp2_with fail
  refine (sends_same _ _ _ _ _ _ w14 S3.out S4.out rfl (by omega)).mono ?_
  rintro e w15 ⟨rfl, c15⟩
  have C15 := Lib.hid (C14.out.trans c15)
  clear c15 C14 
  go_wp2_with fail
  refine (dwakes w15 (HT.out.keep C15.out (by simp))).mono ?_
  rintro e w16 ⟨rfl, c16⟩
  go_wp2_with fail
  go_ret
  exact ⟨rfl, C15.out.trans c16⟩

theorem ask_len (x : En) (c : Int) (m : Ms) : (askE x c m).1.2.length ≤ 8 := by
  unfold askE deedE getSE getME putE cleanE wipeE waitE ownedE sharedE
  repeat' split
  all_goals first
    | exact tell_len _ _
    | simp
set_option maxHeartbeats 4000000 in
theorem dasks_any (x : En) (c : Int) (m : Ms) (w : World) (ht : Tab w) : Calls Tryd.prog 3 #[.agg (ec x), .int .i64 c, .agg (msc m)] w fun e w' => e = .returned (.bool true) ∧ Chg [] w w' := by
  have HT := Lib.hid ht
  clear ht
  go_enter Tryd.func3, Tryd.ntmps3
  try dsimp only [List.append]
  go_wp2_with fail
  refine gen_calls2 (w := w) (b1 := w.heap.size) (x1 := .cells (ec (x)) 26 (0, 0)) (b2 := w.heap.size + 1) (x2 := .cells (msc m) 28 (0, 0)) (by (repeat' (first | with_reducible exact Chg.refl _ _ | with_reducible assumption | with_reducible refine Chg.drew ?_ | with_reducible refine Chg.drewN ?_ _ | with_reducible refine Chg.alloc ?_ _ | with_reducible refine Chg.putRow ?_ _ _ _ (.inr ?_) | with_reducible refine Chg.setCell ?_ _ _ _ (.inr ?_)  | (show _ ≤ _; first | exact Nat.le_refl _ | omega | (simp; done))))) (by simp [*]) (by simp [*]) fun w1 c1 rE rM => ?_
  have C1 := Lib.hid c1
  have oE := old rE
  have oM := old rM
  have hc := dask_any x c m w1 (HT.out.keep c1 (by simp))
  have HB := fun W h => rask_any x c m W h
  have hl := ask_len x c m
  generalize askE x c m = r at hc HB hl
  have r2 : (r.2 == r.2) = true := by simp
  refine hc.mono ?_
  clear hc c1
  rintro e w2 ⟨A1, n1, rfl, hs1, _, c2⟩
  have S1 := Lib.hid hs1
  clear hs1
  replace rE := c2.keep rE (by simp)
  replace rM := c2.keep rM (by simp)
  have C2 := Lib.hid (C1.out.trans c2)
  clear c2 C1 oE oM
  have oE := old rE
  have oM := old rM
  go_wp2_with fail
  have cb := (Chg.refl [] w2).alloc (.cells (ec (r.1.1)) 26 (0, 0))
  have rA : (w2.alloc (.cells (ec (r.1.1)) 26 (0, 0))).heap[w2.heap.size]? = some (.cells (ec (r.1.1)) 26 (0, 0)) := by simp
  replace rE := cb.keep rE (by simp)
  replace rM := cb.keep rM (by simp)
  replace S1 := Lib.hid (S1.out.chg cb (by simp))
  have C3 := Lib.hid (C2.out.trans cb)
  clear cb C2 oE oM
  generalize w2.heap.size = pA at rA ⊢
  generalize w2.alloc (.cells (ec (r.1.1)) 26 (0, 0)) = w3 at rA C3 rE rM S1 ⊢
  have oE := old rE
  have oM := old rM
  have oA := old rA
  have o0 : Old w3 0 := (HT.out.old).chg C3.out
  go_upto_region 2 with fail
  go_cut [10, 11, 12] (fun p s y wx => ∃ pB A2 n2, p = .pointer (some ⟨pB, 0, none⟩) ∧ s = .slice A2 r.1.2.length n2 ∧ y = .int .i64 r.2 ∧ wx.heap[pB]? = some (.cells (ec (r.1.1)) 33 (0, 0)) ∧ Sl wx 13 A2 r.1.2.length (cat Sd.enc r.1.2) ∧ Chg [] w3 wx)
  case first =>
    go_region_held3 (fun w' => w'.heap[w.heap.size]? = some (.cells (ec (x)) 26 (0, 0)) ∧ w'.heap[w.heap.size + 1]? = some (.cells (msc m) 28 (0, 0))) (exact ⟨Chg.keep (l := []) (w := w3) (by (repeat' (first | with_reducible exact cN | with_reducible exact cO | with_reducible exact Chg.refl _ _ | with_reducible refine Chg.alloc ?_ _ | with_reducible refine Chg.drew ?_ | with_reducible refine Chg.putRow ?_ _ _ _ (.inr ?_) | with_reducible exact Chg.size cO | with_reducible exact Nat.le_refl _))) rE (by simp), Chg.keep (l := []) (w := w3) (by (repeat' (first | with_reducible exact cN | with_reducible exact cO | with_reducible exact Chg.refl _ _ | with_reducible refine Chg.alloc ?_ _ | with_reducible refine Chg.drew ?_ | with_reducible refine Chg.putRow ?_ _ _ _ (.inr ?_) | with_reducible exact Chg.size cO | with_reducible exact Nat.le_refl _))) rM (by simp)⟩)
      (first
        | (go_at_call 11; refine (down_any _ _).mono ?_; rintro e w4 ⟨rfl, c4⟩; (first | (have cO : Chg [] w3 w4 := Chg.trans (Chg.drew (Chg.refl [] w3)) c4) | (have cO : Chg [] w3 w4 := Chg.trans (Chg.alloc (Chg.drew (Chg.refl [] w3)) _) c4)); (first | (have rZ : w4.heap[w3.heap.size]? = some (.cells (ec (enZ)) 33 (0, 0)) := c4.keep (new_at w3.drew _) List.not_mem_nil) | (have rZ : True := trivial)))
        | (go_at_call 10; refine (HB _ ?_).mono ?_; (first | exact Old.chgL o0 cO | exact Old.chgL o0 (Chg.alloc cO _)); rintro e w5 ⟨A2, n2, rfl, hs2, hA2, c5⟩; (first | (have cN : Chg [] w3 w5 := Chg.trans cO c5) | (have cN : Chg [] w3 w5 := Chg.trans (Chg.alloc cO _) c5)); (first | (have rY : w5.heap[w3.heap.size]? = some (.cells (ec (enZ)) 33 (0, 0)) := c5.keep rZ List.not_mem_nil) | (have rY : w5.heap[w4.heap.size]? = some (.cells (ec (enZ)) 33 (0, 0)) := c5.keep (new_at w4 _) List.not_mem_nil) | (have rY : True := trivial))))
    all_goals
      go_wp2_with fail
      go_meet
      case rel =>
        first
          | exact ⟨_, A2, n2, rfl, rfl, rfl, by simp, hs2.chg ((Chg.refl [] _).alloc _) (by simp), cN.alloc _⟩
          | exact put_newA cO cN rY hs2 hA2
          | exact put_newB cN rZ rY hs2 hA2
  case rest =>
  obtain ⟨pB, A2, n2, rfl, rfl, rfl, rB, hs2, cW⟩ := hcut
  have S2 := Lib.hid hs2
  clear hs2 o0
  generalize hw6 : wc = w6 at *
  clear hw6
  replace rE := cW.keep rE (by simp)
  replace rM := cW.keep rM (by simp)
  replace rA := cW.keep rA (by simp)
  replace S1 := Lib.hid (S1.out.chg cW (by simp))
  have C6 := Lib.hid (C3.out.trans cW)
  clear cW C3 oE oM oA
  have oE := old rE
  have oM := old rM
  have oA := old rA
  have oB := old rB
  go_wp2_with fail
  have hE : ∀ y : Aft w6.heap.size w6, y.w.heap[w.heap.size]? = some (.cells (ec (x)) 26 (0, 0)) := fun y => (y.block oE.lt).trans rE
  have hA : ∀ y : Aft w6.heap.size w6, y.w.heap[pA]? = some (.cells (ec (r.1.1)) 26 (0, 0)) := fun y => (y.block oA.lt).trans rA
  have hB : ∀ y : Aft w6.heap.size w6, y.w.heap[pB]? = some (.cells (ec (r.1.1)) 33 (0, 0)) := fun y => (y.block oB.lt).trans rB
  have HS1 := Lib.hid (show ∀ y : Aft w6.heap.size w6, Sl y.w 13 A1 r.1.2.length (cat Sd.enc r.1.2) from fun y => S1.out.chg (Below.chg y.below (Nat.le_refl _)) (by simp))
  have HS2 := Lib.hid (show ∀ y : Aft w6.heap.size w6, Sl y.w 13 A2 r.1.2.length (cat Sd.enc r.1.2) from fun y => S2.out.chg (Below.chg y.below (Nat.le_refl _)) (by simp))
  have HX := Lib.hid (show ∀ y : Aft w6.heap.size w6, Tab y.w from fun y => (HT.out.keep C6.out (by simp)).keep (Below.chg y.below (Nat.le_refl _)) (by simp))
  have hl2 : r.1.2.length ≤ 100000 := by omega
  have gg : (goodE x == goodE x) = true := by simp
  have gr : (readyE x == readyE x) = true := by simp
  clear rE rM rA rB oE oM oA oB
  refine wp_region_aft w6.heap.size (by kernel_rfl) (by kernel_rfl) ?_
  repeat (go_big_quiet_step (first
    | (go_at_call 12; exact calls_aftR (Nat.le_refl _) (dgood_any x _))
    | (go_at_call 11; exact calls_aftR (Nat.le_refl _) (down_any x _))
    | (go_at_call 13; exact calls_aftR (Nat.le_refl _) (rgood_any7 x _))
    | (go_at_call 14; exact calls_aftR (Nat.le_refl _) (dready_any x _))
    | (go_at_call 15; exact calls_aftR (Nat.le_refl _) (rready_any x _))
    | (go_at_call 16; exact calls_aftR (Nat.le_refl _) (same_any _ _))
    | (go_at_call 17; exact calls_aftR (Nat.le_refl _) (sends_same _ _ _ _ _ _ _ (HS1.out _) (HS2.out _) rfl hl2))
    | (go_at_call 18; exact calls_aftR (Nat.le_refl _) (dempty_any _))
    | (go_at_call 19; exact calls_aftR (Nat.le_refl _) (rempty_any _))
    | (go_at_call 20; exact calls_aftR (Nat.le_refl _) (dwakes _ (HX.out _)))))
  refine wpQuiet_nil ?_
  rintro _ ⟨y, rfl⟩
  go_wp2_with fail
  go_ret
  exact ⟨by simp, C6.out.trans (Below.chg y.below (Nat.le_refl _))⟩
end Go.Proofs.YtkaabiiedfkaaaaDoor
