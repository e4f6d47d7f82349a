/- The document of one entry: walked. No condition. -/
import Derived.Test.YtkaabiiedfkaaaaDoorDirc
import Derived.BigQuiet
import Derived.Deep.RegionWith
import Derived.Deep.RegionHeld3
import Derived.Deep.QuietTactic
import Derived.Deep.Cut
import Derived.Deep.CutBlock
import Derived.Deep.CutRange
namespace Go.Proofs.YtkaabiiedfkaaaaDoor
open Go.RowKit
set_option linter.unusedVariables false
set_option maxHeartbeats 1000000
attribute [local go_sem ↓] append_appS copy_copS clear_clrS make_mkS slice_slS cell_row frozen_row loadLine storeLine loadMsg storeMsg heap_drew heap_drewN heap_alloc heap_past heap_setCell heap_putRow vs_get msc_kd msc_li msc_di msc_ke
attribute [local go_sem] rowCell_some rowFrozen_some rowHas_some rowIn_some rowPart_full rowPart_lit rowPut_full rowPut_lit rowSet_some size_putRow vs_size vs_one wideLine wideMsg run_loadS run_storeS run_appS run_copS run_clrS run_mkS run_slS loadW_at storeW_at fit_all fit_le one_int one_bool one_pointer one_slice allOne_list putRow_new ne_size1 ne_size2 ne_size3 ne_size4 zero8_length line_eq lit8 msc_size msc_one msc_part msc_in fold_msc
attribute [local simp ↓] heap_drew heap_drewN heap_alloc heap_past heap_setCell heap_putRow
attribute [local simp] rowCell_some rowFrozen_some rowHas_some rowIn_some rowPart_full rowPart_lit rowPut_full rowPut_lit rowSet_some size_putRow vs_size fit_all putRow_new ne_size1 ne_size2 ne_size3 ne_size4 zero8_length msc_size
attribute [local go_sem ↓] ec_he ec_di ec_ow ec_sh ec_bu ec_by ec_wa sc_to
attribute [local go_sem] mi_and mi_or mi_not mi_beq0 mi_bne0 ec_size ec_one ec_part ec_in ec_has ec_setDi ec_setOw ec_setSh ec_setBu ec_setBy ec_setWa ec_setSh0 ec_setWa0 ec_putM sc_size sc_one sc_part sc_in
attribute [local simp] ec_size sc_size ec_setDi ec_setOw ec_setSh ec_setBu ec_setBy ec_setWa ec_setSh0 ec_setWa0 ec_putM
attribute [local go_sem ↓] loadEn storeEn loadSd storeSd en_z0
attribute [local go_sem] wideEn wideSd fold_sc size11 putRow_newB putRow_newC ms5_lit
attribute [local simp] en_z0 putRow_newB putRow_newC fit_le ec_has
theorem wideEnR : Wide Tryd.prog 33 15 := ⟨⟨_, Tryd.underlying33, by rfl⟩, by kernel_rfl⟩
theorem loadEnR (x : Value) : Instr.loadAt 33 x = loadS 33 15 x := rfl
theorem storeEnR (x y : Value) : Instr.storeAt 33 x y = storeS 33 15 x y := rfl
theorem wideSdR : Wide Tryd.prog 68 13 := ⟨⟨_, Tryd.underlying68, by rfl⟩, by kernel_rfl⟩
theorem loadSdR (x : Value) : Instr.loadAt 68 x = loadS 68 13 x := rfl
theorem storeSdR (x y : Value) : Instr.storeAt 68 x y = storeS 68 13 x y := rfl
attribute [local go_sem ↓] loadEnR storeEnR loadSdR storeSdR
attribute [local go_sem] wideEnR wideSdR

theorem results_er1 {fn : Func} {p : Tmp} (h : fn.results = #[.cell p 33]) (tmps : Array Value) (w : World) (b : Nat) (x : En) (fr : Nat × Nat)
    (hp : tmps.getD p undef = .pointer (some ⟨b, 0, none⟩)) (hb : w.heap[b]? = some (.cells (ec x) 33 fr)) :
    (results fn tmps).run Tryd.prog w = .ok (.agg (ec x)) w := by
  have hp' : tmps[p]?.getD undef = .pointer (some ⟨b, 0, none⟩) := by simpa using hp
  have := run_loadVar_row (P := Tryd.prog) w b 33 33 (ec x) fr _ hb Tryd.underlying33 rfl (by rw [ec_size]; kernel_rfl)
  simp [results, h, hp', asAddr, this]
theorem results_er2 {fn : Func} {p t : Tmp} (h : fn.results = #[.cell p 33, .tmp t]) (tmps : Array Value) (w : World) (b : Nat) (x : En) (fr : Nat × Nat)
    (hp : tmps.getD p undef = .pointer (some ⟨b, 0, none⟩)) (hb : w.heap[b]? = some (.cells (ec x) 33 fr)) (y : Value) (hy : tmps.getD t undef = y) :
    (results fn tmps).run Tryd.prog w = .ok (.tuple #[.agg (ec x), y]) w := by
  subst hy
  have hp' : tmps[p]?.getD undef = .pointer (some ⟨b, 0, none⟩) := by simpa using hp
  have := run_loadVar_row (P := Tryd.prog) w b 33 33 (ec x) fr _ hb Tryd.underlying33 rfl (by rw [ec_size]; kernel_rfl)
  simp [results, h, hp', asAddr, this]
theorem results_er3 {fn : Func} {p t u : Tmp} (h : fn.results = #[.cell p 33, .tmp t, .tmp u]) (tmps : Array Value) (w : World) (b : Nat) (x : En) (fr : Nat × Nat)
    (hp : tmps.getD p undef = .pointer (some ⟨b, 0, none⟩)) (hb : w.heap[b]? = some (.cells (ec x) 33 fr)) (y z : Value) (hy : tmps.getD t undef = y) (hz : tmps.getD u undef = z) :
    (results fn tmps).run Tryd.prog w = .ok (.tuple #[.agg (ec x), y, z]) w := by
  subst hy
  subst hz
  have hp' : tmps[p]?.getD undef = .pointer (some ⟨b, 0, none⟩) := by simpa using hp
  have := run_loadVar_row (P := Tryd.prog) w b 33 33 (ec x) fr _ hb Tryd.underlying33 rfl (by rw [ec_size]; kernel_rfl)
  simp [results, h, hp', asAddr, this]

theorem rcore_any (c : Int) (w : World) : Calls Tryd.prog 32 #[.int .i64 c] w fun e w' => e = .returned (.bool (isC c)) ∧ w = w' := by
  unfold isC
  cases t0 : decide (0 ≤ c)
  all_goals
    go_enter Tryd.func32, Tryd.ntmps32
    try dsimp only [List.append]
    go_wp2_with fail
    go_ret
    exact ⟨by simp, rfl⟩
theorem rmine_any (x : En) (w : World) : Calls Tryd.prog 36 #[.agg (ec x)] w fun e w' => e = .returned (.int .u8 (mi (bitM x.ow))) ∧ Chg [] w w' := by
  go_enter Tryd.func36, Tryd.ntmps36
  try dsimp only [List.append]
  go_wp2_with (go_at_call 26; refine (rbit_any _ _).mono ?_; rintro e w' ⟨rfl, rfl⟩)
  go_ret
  exact ⟨rfl, by (repeat' (first | with_reducible exact Chg.refl _ _ | with_reducible assumption | with_reducible refine Chg.drew ?_ | with_reducible refine Chg.drewN ?_ _ | with_reducible refine Chg.alloc ?_ _ | with_reducible refine Chg.putRow ?_ _ _ _ (.inr ?_) | with_reducible refine Chg.setCell ?_ _ _ _ (.inr ?_)  | (show _ ≤ _; first | exact Nat.le_refl _ | omega | (simp; done))))⟩
theorem ec_setHe (e : En) (b : Bool) : (ec e).setIfInBounds 0 (.bool b) = ec (e.setHe b) := by simp [ec, En.enc, En.tail, En.setHe]
theorem ec_foldL (e : En) (l : List Int) (h : l.length = 8) : Array.foldl (fun cs y => cs.setIfInBounds (2 + y.snd) y.fst) (ec e) (vs l).zipIdx 0 8 = ec (e.setL l h) := by
  rw [fold_put _ _ _ _ (by rw [vs_size, h]) (by rw [ec_size]; omega)]
  have := ec_put e l h 0 (0, 0)
  rw [rowPut_some] at this
  simpa [vs] using this
attribute [local go_sem] ec_setHe ec_foldL
theorem down_any (x : En) (w : World) : Calls Tryd.prog 11 #[.agg (ec x)] w fun e w' => e = .returned (.agg (ec x)) ∧ Chg [] w w' := by
  have h8 := x.h
  go_enter Tryd.func11, Tryd.ntmps11
  try dsimp only [List.append]
  go_wp2_with fail
  refine bodyPost_ret (v := .agg (ec x)) ?_ (by rfl) ?_
  · exact results_er1 (by rfl) _ _ (w.heap.size + 1) x (0, 0) (by rfl) (by simp; rfl)
  exact ⟨rfl, by (repeat' (first | with_reducible exact Chg.refl _ _ | with_reducible assumption | with_reducible refine Chg.drew ?_ | with_reducible refine Chg.drewN ?_ _ | with_reducible refine Chg.alloc ?_ _ | with_reducible refine Chg.putRow ?_ _ _ _ (.inr ?_) | with_reducible refine Chg.setCell ?_ _ _ _ (.inr ?_)  | (show _ ≤ _; first | exact Nat.le_refl _ | omega | (simp; done))))⟩
/-! ### Which entries are good, by the document's words -/
def badE (x : En) : Bool := decide (x.ow < -1) || (decide (7 < x.ow) || ((x.di && !x.he) || ((decide (0 ≤ x.ow) && x.sh != 0#8) || (((decide (0 ≤ x.ow) || x.sh != 0#8) && !x.he) || (!x.he && x.l != z8)))))
def offE (x : En) : Bool := (x.wa &&& ~~~(bitM x.ow ||| x.sh)) != 0#8
def rgE (x : En) : Bool := if badE x = true then false else if offE x = true then false else if x.bu = 0 then x.by_ == 0 && x.wa == 0#8
  else if ((x.bu = 1 ∨ x.bu = 2) ∨ (x.bu = 4 ∨ x.bu = 5)) ∧ isC x.by_ = true ∧ x.he = true then x.wa != 0#8 || (x.bu == 4 || x.bu == 5) else false
theorem or_bits (a b : Mk) : a ||| b = b ||| a := BitVec.or_comm a b
theorem rgE_good (x : En) : rgE x = goodE x := by
  have hoff : offE x = !((x.wa &&& ~~~(holders x)) == 0#8) := by unfold offE holders; rw [or_bits]; rfl
  cases he : x.he
  · have e1 : goodE x = decide (x = enE) := by simp [goodE, he]
    rw [e1]
    by_cases hx : x = enE
    · subst hx; decide
    · rw [decide_eq_false hx]
      unfold rgE
      by_cases hb : badE x = true
      · rw [if_pos hb]
      rw [if_neg hb]
      by_cases ho : offE x = true
      · rw [if_pos ho]
      rw [if_neg ho, if_neg (show ¬ (((x.bu = 1 ∨ x.bu = 2) ∨ (x.bu = 4 ∨ x.bu = 5)) ∧ isC x.by_ = true ∧ x.he = true) by rw [he]; simp)]
      split
      · rename_i h0
        rw [Bool.and_eq_false_iff]
        by_cases h1 : x.by_ = 0
        · right
          rw [beq_eq_false_iff_ne]
          intro h2
          apply hx
          simp [badE, he] at hb
          obtain ⟨a1, a2, a3, a4, a5, a6⟩ := hb
          exact En.same he a3 a6 (show x.ow = -1 by omega) a5.2 h0 h1 h2
        · left; simpa using h1
      · rfl
  · have e1 : goodE x = (goodOw x && goodBu x) := by simp [goodE, he]
    rw [e1]
    have hbad : badE x = !(goodOw x) := by
      unfold badE goodOw
      rw [he]
      rw [Bool.eq_iff_iff]
      cases hs : (x.sh == 0#8) <;> simp [hs, bne, isC] <;> omega
    unfold rgE
    rw [hbad]
    cases hg : goodOw x
    · simp
    · simp only [Bool.not_true, Bool.true_and, Bool.false_eq_true, if_false]
      rw [hoff]
      unfold goodBu goodWa
      cases hw : (x.wa &&& ~~~(holders x)) == 0#8
      · simp only [Bool.not_false, if_true, Bool.and_false, Bool.false_and]
        split
        · rename_i h0
          symm
          rw [Bool.and_eq_false_iff]
          right
          rw [beq_eq_false_iff_ne]
          intro h
          rw [h] at hw
          simp at hw
        · split
          · rfl
          · split <;> rfl
      · simp only [Bool.not_true, Bool.false_eq_true, if_false, Bool.and_true]
        split
        · rfl
        · rename_i h0
          by_cases h1 : x.bu = 1 ∨ x.bu = 2
          · have h4 : (x.bu == 4) = false := by simp; omega
            have h5 : (x.bu == 5) = false := by simp; omega
            cases hc : isC x.by_ <;> simp [h1, h4, h5, he]
          · by_cases h2 : x.bu = 4 ∨ x.bu = 5
            · have h6 : ((x.bu == 4) || (x.bu == 5)) = true := by rcases h2 with h | h <;> simp [h]
              cases hc : isC x.by_ <;> simp [h1, h2, h6, he]
            · simp [h1, h2]

theorem calls_aftR {P : Program} {f : FuncId} {args : Array Value} {N : Nat} {W : World} {x : Aft N W} {v : Value} (hN : N ≤ W.heap.size)
    (h : Calls P f args x.w fun e w' => e = .returned v ∧ Chg [] x.w w') : Calls P f args x.w fun e w'' => e = .returned v ∧ ∃ y : Aft N W, w'' = y.w :=
  calls_aft hN (h.mono fun _ _ ⟨he, hc⟩ => ⟨he, hc.below (Nat.le_refl _) (by simp)⟩)
theorem rcore_at (c : Int) (b : Bool) (h : isC c = b) (w : World) : Calls Tryd.prog 32 #[.int .i64 c] w fun e w' => e = .returned (.bool b) ∧ w = w' := h ▸ rcore_any c w
theorem mi_beqz (a : Mk) : (mi a != mi 0#8) = (a != 0#8) := by rw [bne, bne, mi_beq]
set_option maxHeartbeats 8000000 in
set_option maxRecDepth 100000 in
theorem rgood_any7 (x : En) (w : World) : Calls Tryd.prog 13 #[.agg (ec x)] w fun e w' => e = .returned (.bool (goodE x)) ∧ Chg [] w w' := by
  rw [← rgE_good]
  have rE : (w.alloc (.cells (ec (x)) 33 (0, 0))).heap[w.heap.size]? = some (.cells (ec (x)) 33 (0, 0)) := by simp
  have C1 := (Chg.refl [] w).alloc (.cells (ec (x)) 33 (0, 0))
  have he := fun W => line_eq x.l [0, 0, 0, 0, 0, 0, 0, 0] x.h rfl W
  go_enter Tryd.func13, Tryd.ntmps13
  try dsimp only [List.append]
  go_upto_region 1 with (fail)
  generalize w.alloc (.cells (ec (x)) 33 (0, 0)) = w1 at rE C1 ⊢
  go_cut [55] from 3 to 56 (fun c wx => c = .bool (badE x) ∧ wx = w1)
  case first =>
    cases t1 : decide (x.ow < -1)
    · cases t2 : decide (7 < x.ow)
      · cases t3 : x.di <;> cases t4 : x.he
        all_goals
          cases t5 : decide (0 ≤ x.ow) <;> cases t6 : (x.sh != 0#8)
          all_goals
            go_wp2_with fail
            go_meet
            case rel => exact ⟨by first | (simp [badE, *]; done) | (simp [badE, *]; simp [bne, z8]), rfl⟩
      · go_wp2_with fail
        go_meet
        case rel => exact ⟨by simp [badE, *], rfl⟩
    · go_wp2_with fail
      go_meet
      case rel => exact ⟨by simp [badE, *], rfl⟩
  case rest =>
    obtain ⟨rfl, rfl⟩ := hcut
    cases hb : badE x
    · skip
      have oE := old rE
      go_wp2_with fail
      go_upto_region 3 with (fail)
      go_cut [64] from 56 to 65 (fun c wx => c = .bool (offE x) ∧ wx.heap[w.heap.size]? = some (.cells (ec (x)) 33 (0, 0)) ∧ Chg [] w wx)
      case first =>
        have hx : ∀ y : Aft wc.heap.size wc, y.w.heap[w.heap.size]? = some (.cells (ec (x)) 33 (0, 0)) := fun y => (y.block oE.lt).trans rE
        refine wp_region_aft wc.heap.size (by kernel_rfl) (by kernel_rfl) ?_
        repeat (go_big_quiet_step (first
          | (go_at_call 36; exact calls_aftR (Nat.le_refl _) (rmine_any x _))))
        refine wpQuiet_nil ?_
        rintro _ ⟨y, rfl⟩
        go_wp2_with fail
        go_meet
        case rel => exact ⟨rfl, hx y, C1.trans (Below.chg y.below (Nat.le_refl _))⟩
      case rest =>
        obtain ⟨rfl, rE4, C4⟩ := hcut
        clear rE C1 oE
        cases ho : offE x
        · by_cases h0 : x.bu = 0
          · have s0 : (x.bu == 0) = true := by simp [h0]
            cases s1 : (x.by_ == 0)
            all_goals
              go_wp2_with fail
              go_ret
              exact ⟨by simp [rgE, hb, ho, h0, s1], C4⟩
          have s0 : (x.bu == 0) = false := by simpa using h0
          by_cases hk : (x.bu = 1 ∨ x.bu = 2) ∨ (x.bu = 4 ∨ x.bu = 5)
          · have s9 : (x.bu != 1) = false ∨ ((x.bu != 1) = true ∧ (x.bu != 2) = false) ∨ ((x.bu != 1) = true ∧ (x.bu != 2) = true ∧ (x.bu != 4) = false) ∨ ((x.bu != 1) = true ∧ (x.bu != 2) = true ∧ (x.bu != 4) = true ∧ (x.bu != 5) = false) := by
              rcases hk with (h | h) | (h | h) <;> simp [h]
            cases hc : isC x.by_
            · rcases s9 with q1 | ⟨q1, q2⟩ | ⟨q1, q2, q3⟩ | ⟨q1, q2, q3, q4⟩
              all_goals
                go_wp2_with ((go_at_call 32; refine (rcore_at _ _ hc _).mono ?_; rintro e w' ⟨rfl, rfl⟩))
                go_ret
                exact ⟨by simp [rgE, hb, ho, h0, hc], C4⟩
            · cases hh : x.he
              · rcases s9 with q1 | ⟨q1, q2⟩ | ⟨q1, q2, q3⟩ | ⟨q1, q2, q3, q4⟩
                all_goals
                  go_wp2_with ((go_at_call 32; refine (rcore_at _ _ hc _).mono ?_; rintro e w' ⟨rfl, rfl⟩))
                  go_ret
                  exact ⟨by simp [rgE, hb, ho, h0, hc, hh], C4⟩
              · have e1 : rgE x = (x.wa != 0#8 || (x.bu == 4 || x.bu == 5)) := by simp [rgE, hb, ho, h0, hc, hh, hk]
                cases hw : (x.wa != 0#8) <;> cases h4 : (x.bu == 4)
                all_goals
                  rcases s9 with q1 | ⟨q1, q2⟩ | ⟨q1, q2, q3⟩ | ⟨q1, q2, q3, q4⟩
                  all_goals
                    go_wp2_with ((go_at_call 32; refine (rcore_at _ _ hc _).mono ?_; rintro e w' ⟨rfl, rfl⟩))
                    go_ret
                    exact ⟨by rw [e1]; simp [hw, h4], C4⟩
          · have q1 : (x.bu != 1) = true := by simp; omega
            have q2 : (x.bu != 2) = true := by simp; omega
            have q3 : (x.bu != 4) = true := by simp; omega
            have q4 : (x.bu != 5) = true := by simp; omega
            go_wp2_with fail
            go_ret
            exact ⟨by simp [rgE, hb, ho, h0, hk], C4⟩
        · go_wp2_with fail
          go_ret
          exact ⟨by simp [rgE, hb, ho], C4⟩
    · go_wp2_with fail
      go_ret
      exact ⟨by simp [rgE, hb], C1⟩
end Go.Proofs.YtkaabiiedfkaaaaDoor
