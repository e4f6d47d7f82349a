/- What a statement of layer 13 needs further, and for the last file the statement itself: for every argument. No condition. -/
import Derived.Test.YtcjoinhngdfdmaaGreatDoorCLar
import Derived.Test.YtcjoinhngdfdmaaGreatDoorCLaa
import Derived.Test.YtcjoinhngdfdmaaGreatDoorCLab
import Derived.Test.YtcjoinhngdfdmaaGreatDoorCLac
import Derived.Test.YtcjoinhngdfdmaaGreatDoorCLad
import Derived.Test.YtcjoinhngdfdmaaGreatDoorCLae
import Derived.Test.YtcjoinhngdfdmaaGreatDoorCLaf
import Derived.Test.YtcjoinhngdfdmaaGreatDoorCLag
import Derived.Test.YtcjoinhngdfdmaaGreatDoorCLah
import Derived.Test.YtcjoinhngdfdmaaGreatDoorCLai
import Derived.Test.YtcjoinhngdfdmaaGreatDoorCLaj
import Derived.Test.YtcjoinhngdfdmaaGreatDoorCLak
import Derived.Test.YtcjoinhngdfdmaaGreatDoorCLal
import Derived.Test.YtcjoinhngdfdmaaGreatDoorCLam
import Derived.Test.YtcjoinhngdfdmaaGreatDoorCLan
import Derived.Test.YtcjoinhngdfdmaaGreatDoorCLao
import Derived.Test.YtcjoinhngdfdmaaGreatDoorCLap
import Derived.Test.YtcjoinhngdfdmaaGreatDoorCLaq
import Derived.Below
import Derived.BigQuiet
import Derived.ChangeAlike
import Derived.ChangeArms
import Derived.ChangeKeysEq
import Derived.Deep.Cut
import Derived.Deep.CutBlock
import Derived.Deep.CutRange
import Derived.Deep.DeepCutAuto
import Derived.Deep.MidRow
import Derived.Deep.Quiet
import Derived.Deep.QuietTactic
import Derived.Deep.RegionHeld3
import Derived.Deep.RegionLaw
import Derived.Deep.RegionWith
import Derived.DeepKeys
import Derived.Defers
import Derived.IntWalk
import Derived.Laws.Bits64b
import Derived.Laws.BitsAllLaws
import Derived.Laws.Entries
import Derived.Laws.LoneSync
import Derived.Laws.NewBlocks
import Derived.Laws.Pointers
import Derived.Laws.StructEq
import Derived.Lib.Hide
import Derived.Lib.SliceRun
import Derived.Maps.OwnOps
import Derived.OpenShut
import Derived.ProofKit
import Derived.RegionCalls
import Derived.RegionTactic
import Derived.StillTail
import Derived.StillTailTactics
import Derived.Tactics
import Derived.Tactics2
import Derived.Test.YtcjoinhngdfdmaaGreatDoorChecked
import Derived.WalkKit
import Derived.WideShapes
section
namespace Go.Proofs.YtcjoinhngdfdmaaGreatDoor
open Go.RowKit
set_option linter.unusedVariables false
set_option maxHeartbeats 1000000

/-! ### What CoreTraps comes to -/
def nopI : Ins := ⟨0, 0, 0, 0, 0⟩
def nopU : Int := codeI nopI
def tellU : Int := codeI ⟨21, 1, 0, 0, 0⟩
/-- A round behind what Exec did. -/
def rndR (d : Did13) : Did13 :=
  ⟨pdA 6 (hearM kc (answerM kc (upM kc (drainC kc d.S d.Q).S 0).1 0).1 0).1, (hearC (drainC kc d.S d.Q).Q (hearM kc (answerM kc (upM kc (drainC kc d.S d.Q).S 0).1 0).1 0).2.m).1, d.ev ++ ((drainC kc d.S d.Q).ev ++ (hearC (drainC kc d.S d.Q).Q (hearM kc (answerM kc (upM kc (drainC kc d.S d.Q).S 0).1 0).1 0).2.m).2)⟩
theorem rnd_R (S : Mst) (Q : Co) : rndA S Q = rndR (execC kc S Q) := rfl
/-- Nothing is in the buffer, nothing in the system: nothing but Exec happens. -/
theorem rndR_still (Q : Co) (l : List Ev) (he : Q.es = []) (hw : Q.wt = 0) : rndR ⟨kS0, Q, l⟩ = ⟨kS0, Q, l⟩ := by
  have h1 : drainC kc kS0 Q = ⟨kS0, Q, []⟩ := by unfold drainC; rw [he]
  have h2 : ∀ m, hearC Q m = (Q, []) := fun m => by unfold hearC; rw [if_pos (.inl hw)]
  unfold rndR
  simp only [h1, h2, List.append_nil]
  have h3 : pdA 6 (hearM kc (answerM kc (upM kc kS0 0).1 0).1 0).1 = kS0 := by kernel_rfl
  rw [h3]
/-- Nops behind each other. -/
def nopR (us : List Int) (k : Nat) : Co := ⟨0, true, [0, 0, 0, 0, 0, 0, 0, 0], (us.take k).map (fun u => (u, true)) ++ (us.drop k).map (fun u => (u, false)), k, 2, [], 0⟩
theorem nop_dec : decB nopU = true ∧ insOf nopU = nopI := ⟨by kernel_rfl, by kernel_rfl⟩
theorem nopR_at (us : List Int) {k : Nat} {u : Int} (h : us[k]? = some u) : (nopR us k).pr[k]? = some (u, false) := by
  have hk := (List.getElem?_eq_some_iff.1 h).1
  show ((us.take k).map (fun u => (u, true)) ++ (us.drop k).map (fun u => (u, false)))[k]? = _
  rw [List.getElem?_append_right (by simp; omega)]
  simp only [List.length_map, List.length_take, Nat.min_eq_left (Nat.le_of_lt hk), Nat.sub_self, List.getElem?_map, List.getElem?_drop, Nat.add_zero, h]
  rfl
theorem nopR_read (us : List Int) {k : Nat} {u : Int} (h : us[k]? = some u) : (nopR us k).pr.set k (u, true) = (us.take (k + 1)).map (fun u => (u, true)) ++ (us.drop (k + 1)).map (fun u => (u, false)) := by
  have hk := (List.getElem?_eq_some_iff.1 h).1
  show ((us.take k).map (fun u => (u, true)) ++ (us.drop k).map (fun u => (u, false))).set k (u, true) = _
  rw [List.set_append_right _ _ (by simp; omega)]
  simp only [List.length_map, List.length_take, Nat.min_eq_left (Nat.le_of_lt hk), Nat.sub_self]
  rw [List.drop_eq_getElem_cons hk, List.take_succ_eq_append_getElem hk, (List.getElem?_eq_some_iff.1 h).2]
  simp
theorem nop_step (us : List Int) {k : Nat} (h : us[k]? = some nopU) : rndA kS0 (nopR us k) = ⟨kS0, nopR us (k + 1), []⟩ := by
  have h1 : execC kc kS0 (nopR us k) = ⟨kS0, nopR us (k + 1), []⟩ := by
    unfold execC
    rw [show (nopR us k).ru = true from rfl, if_pos rfl, show (nopR us k).pc = k from rfl, nopR_at us h]
    simp only [nop_dec.1, nop_dec.2, if_pos]
    show (⟨kS0, nextC (readC (nopR us k) nopU), []⟩ : Did13) = _
    unfold nextC readC
    show (⟨kS0, ⟨0, true, _, (nopR us k).pr.set k (nopU, true), k + 1, 2, [], 0⟩, []⟩ : Did13) = _
    rw [nopR_read us h]
    rfl
  rw [rnd_R, h1, rndR_still _ _ rfl rfl]
theorem nop_run (us : List Int) : ∀ k, (∀ j, j < k → us[j]? = some nopU) → runA us k = ⟨kS0, nopR us k, []⟩
  | 0, _ => by
    show (⟨kS0, co0 0 2 us, []⟩ : Did13) = _
    unfold co0 nopR prog0
    simp
  | k + 1, h => by
    show (⟨(rndA (runA us k).S (runA us k).Q).S, (rndA (runA us k).S (runA us k).Q).Q, (runA us k).ev ++ (rndA (runA us k).S (runA us k).Q).ev⟩ : Did13) = _
    rw [nop_run us k (fun j hj => h j (by omega)), nop_step us (h k (by omega))]
    rfl
/-- A trap, behind that. -/
theorem trap_step (us : List Int) {k : Nat} {Q' : Co} (hr : runA us k = ⟨kS0, Q', []⟩) {Q2 : Co} (hx : execC kc kS0 Q' = ⟨kS0, Q2, [⟨10, 0, 0, 0, 0⟩]⟩) (he : Q2.es = []) (hw : Q2.wt = 0) : runA us (k + 1) = ⟨kS0, Q2, [⟨10, 0, 0, 0, 0⟩]⟩ := by
  show (⟨(rndA (runA us k).S (runA us k).Q).S, (rndA (runA us k).S (runA us k).Q).Q, (runA us k).ev ++ (rndA (runA us k).S (runA us k).Q).ev⟩ : Did13) = _
  rw [hr, rnd_R, hx, rndR_still _ _ he hw]
  rfl
/-- A place behind the program. -/
theorem trap_end (us : List Int) {k : Nat} (hn : us.length = k) (h : ∀ j, j < k → us[j]? = some nopU) : runA us (k + 1) = ⟨kS0, stopC (nopR us k), [⟨10, 0, 0, 0, 0⟩]⟩ := by
  refine trap_step us (nop_run us k h) ?_ rfl rfl
  unfold execC
  rw [show (nopR us k).ru = true from rfl, if_pos rfl, show (nopR us k).pc = k from rfl, List.getElem?_eq_none (by show ((us.take k).map (fun u => (u, true)) ++ (us.drop k).map (fun u => (u, false))).length ≤ k; simp; omega)]
  rfl
/-- A word that is none. -/
theorem trap_bad (us : List Int) {k : Nat} {u : Int} (hu : us[k]? = some u) (hb : decB u = false) (h : ∀ j, j < k → us[j]? = some nopU) : runA us (k + 1) = ⟨kS0, stopC (readC (nopR us k) u), [⟨10, 0, 0, 0, 0⟩]⟩ := by
  refine trap_step us (nop_run us k h) ?_ rfl rfl
  unfold execC
  rw [show (nopR us k).ru = true from rfl, if_pos rfl, show (nopR us k).pc = k from rfl, nopR_at us hu]
  simp only [hb]
  rfl
theorem u64_small' {x : Int} (h0 : 0 ≤ x) (h1 : x < 18446744073709551616) : IntKind.u64.wrap x = x := by
  simp [IntKind.wrap, IntKind.signed, IntKind.bits]
  omega
theorem li_good {a : Int} (h : 0 ≤ a ∧ a < 65536) : goodI ⟨1, 1, 0, 0, a⟩ = true := by
  have e1 : goodM a 1 = true := by
    show goodMb a true false = true
    unfold goodMb
    rw [if_pos rfl, if_neg (by simp)]
    simp; omega
  show (isOpB 1 && (goodR 1 true && (goodR 0 false && (goodR 0 false && goodM a 1)))) = true
  rw [e1]; rfl
def liU (a : Int) : Int := codeI ⟨1, 1, 0, 0, a⟩
def stxI : Ins := ⟨9, 2, 1, 0, 0⟩
def stU : Int := codeI stxI
theorem st_dec : decB stU = true ∧ insOf stU = stxI := ⟨by kernel_rfl, by kernel_rfl⟩
def liR (us : List Int) (k : Nat) (a : Int) : Co := ⟨0, true, [0, a, 0, 0, 0, 0, 0, 0], (us.take (k + 1)).map (fun u => (u, true)) ++ (us.drop (k + 1)).map (fun u => (u, false)), k + 1, 2, [], 0⟩
theorem li_step (us : List Int) {k : Nat} {a : Int} (ha : 0 ≤ a ∧ a < 65536) (h : us[k]? = some (liU a)) (h0 : ∀ j, j < k → us[j]? = some nopU) : runA us (k + 1) = ⟨kS0, liR us k a, []⟩ := by
  have hx : execC kc kS0 (nopR us k) = ⟨kS0, liR us k a, []⟩ := by
    obtain ⟨d1, d2, _⟩ := dec_code (li_good ha)
    unfold execC
    rw [show (nopR us k).ru = true from rfl, if_pos rfl, show (nopR us k).pc = k from rfl, nopR_at us h]
    simp only [liU, d1, d2, if_pos]
    show (⟨kS0, nextC (setR (readC (nopR us k) (codeI ⟨1, 1, 0, 0, a⟩)) 1 (IntKind.u64.wrap a)), []⟩ : Did13) = _
    rw [u64_small' ha.1 (by omega)]
    unfold nextC setR readC
    show (⟨kS0, ⟨0, true, [0, a, 0, 0, 0, 0, 0, 0], (nopR us k).pr.set k (liU a, true), k + 1, 2, [], 0⟩, []⟩ : Did13) = _
    rw [nopR_read us h]
    rfl
  show (⟨(rndA (runA us k).S (runA us k).Q).S, (rndA (runA us k).S (runA us k).Q).Q, (runA us k).ev ++ (rndA (runA us k).S (runA us k).Q).ev⟩ : Did13) = _
  rw [nop_run us k h0, rnd_R, hx, rndR_still _ _ rfl rfl]
  rfl
theorem trap_addr (us : List Int) {k : Nat} {a : Int} (ha : 0 ≤ a ∧ a < 65536) (hb : ¬ (a % 8 = 0 ∧ a < 384)) (h : us[k]? = some (liU a)) (h2 : us[k + 1]? = some stU) (h0 : ∀ j, j < k → us[j]? = some nopU) : runA us (k + 2) = ⟨kS0, stopC (readC (liR us k a) stU), [⟨10, 0, 0, 0, 0⟩]⟩ := by
  refine trap_step us (li_step us ha h h0) ?_ rfl rfl
  have hp : (liR us k a).pr[k + 1]? = some (stU, false) := by
    have := nopR_at us h2
    exact this
  have had : addrI (readC (liR us k a) stU) stxI = a := by
    show IntKind.u64.wrap (a + IntKind.u64.wrap 0) = a
    rw [show IntKind.u64.wrap 0 = 0 by kernel_rfl, Int.add_zero, u64_small' ha.1 (by omega)]
  have hat : atB kc.li a = false := by
    show (a % 8 == 0 && decide (a / 64 < 6)) = false
    by_cases h8 : a % 8 = 0
    · rw [show decide (a / 64 < 6) = false by simp; omega, Bool.and_false]
    · rw [show (a % 8 == 0) = false by simpa using h8, Bool.false_and]
  unfold execC
  rw [show (liR us k a).ru = true from rfl, if_pos rfl, show (liR us k a).pc = k + 1 from rfl, hp]
  simp only [st_dec.1, st_dec.2, if_pos]
  show accessC kc kS0 (readC (liR us k a) stU) stxI = _
  unfold accessC
  rw [had, hat, if_neg (by simp)]
  rfl
theorem nop_noAlu (us : List Int) {k : Nat} (h : us[k]? = some nopU) : noAlu (nopR us k) := by
  intro u r hu _
  have e : (nopR us k).pr[k]? = some (u, r) := hu
  rw [nopR_at us h] at e
  injection e with e
  injection e with e1 e2
  subst e1
  rw [nop_dec.2]
  exact .inl (by decide)
theorem li_noAlu (us : List Int) {k : Nat} {a : Int} (ha : 0 ≤ a ∧ a < 65536) (h : us[k]? = some (liU a)) : noAlu (nopR us k) := by
  intro u r hu _
  have e : (nopR us k).pr[k]? = some (u, r) := hu
  rw [nopR_at us h] at e
  injection e with e
  injection e with e1 e2
  subst e1
  rw [show insOf (liU a) = ⟨1, 1, 0, 0, a⟩ from (dec_code (li_good ha)).1]
  exact .inl (show (1 : Int) < 2 by decide)
theorem st_noAlu (us : List Int) {k : Nat} {a : Int} (h2 : us[k + 1]? = some stU) : noAlu (liR us k a) := by
  intro u r hu _
  have e : (nopR us (k + 1)).pr[k + 1]? = some (u, r) := hu
  rw [nopR_at us h2] at e
  injection e with e
  injection e with e1 e2
  subst e1
  rw [st_dec.2]
  exact .inr (by decide)
theorem bad_noAlu (us : List Int) {k : Nat} {u : Int} (h : us[k]? = some u) (hb : decB u = false) : noAlu (nopR us k) := by
  intro v r hv hd
  have e : (nopR us k).pr[k]? = some (v, r) := hv
  rw [nopR_at us h] at e
  injection e with e
  injection e with e1 e2
  subst e1
  rw [hb] at hd; cases hd
theorem end_noAlu (us : List Int) {k : Nat} (hn : us.length = k) : noAlu (nopR us k) := by
  intro v r hv _
  have e : ((us.take k).map (fun u => (u, true)) ++ (us.drop k).map (fun u => (u, false)))[k]? = some (v, r) := hv
  rw [List.getElem?_eq_none (by simp; omega)] at e
  cases e
/-- What all three come to. -/
structure Trap (us : List Int) (r : Nat) : Prop where
  ru : ∀ i, i < r → (runA us i).Q.ru = true
  al : ∀ i, i < r → noAlu (runA us i).Q
  off : (runA us r).Q.ru = false
  ev : (runA us r).ev = [⟨10, 0, 0, 0, 0⟩]
theorem trap_of_end (us : List Int) {k : Nat} (hn : us.length = k) (h : ∀ j, j < k → us[j]? = some nopU) : Trap us (k + 1) := by
  have he := trap_end us hn h
  refine ⟨fun i hi => ?_, fun i hi => ?_, by rw [he]; rfl, by rw [he]⟩
  · rw [nop_run us i (fun j hj => h j (by omega))]; rfl
  · rw [nop_run us i (fun j hj => h j (by omega))]
    by_cases e : i = k
    · subst e; exact end_noAlu us hn
    · exact nop_noAlu us (h i (by omega))
theorem trap_of_bad (us : List Int) {k : Nat} {u : Int} (hu : us[k]? = some u) (hb : decB u = false) (h : ∀ j, j < k → us[j]? = some nopU) : Trap us (k + 1) := by
  have he := trap_bad us hu hb h
  refine ⟨fun i hi => ?_, fun i hi => ?_, by rw [he]; rfl, by rw [he]⟩
  · rw [nop_run us i (fun j hj => h j (by omega))]; rfl
  · rw [nop_run us i (fun j hj => h j (by omega))]
    by_cases e : i = k
    · subst e; exact bad_noAlu us hu hb
    · exact nop_noAlu us (h i (by omega))
theorem trap_of_addr (us : List Int) {k : Nat} {a : Int} (ha : 0 ≤ a ∧ a < 65536) (hb : ¬ (a % 8 = 0 ∧ a < 384)) (hu : us[k]? = some (liU a)) (h2 : us[k + 1]? = some stU) (h : ∀ j, j < k → us[j]? = some nopU) : Trap us (k + 2) := by
  have he := trap_addr us ha hb hu h2 h
  refine ⟨fun i hi => ?_, fun i hi => ?_, by rw [he]; rfl, by rw [he]⟩
  · by_cases e : i = k + 1
    · subst e; rw [li_step us ha hu h]; rfl
    · rw [nop_run us i (fun j hj => h j (by omega))]; rfl
  · by_cases e : i = k + 1
    · subst e; rw [li_step us ha hu h]; exact st_noAlu us h2
    · rw [nop_run us i (fun j hj => h j (by omega))]
      by_cases e2 : i = k
      · subst e2; exact li_noAlu us ha hu
      · exact nop_noAlu us (h i (by omega))
end Go.Proofs.YtcjoinhngdfdmaaGreatDoor
end
section
namespace Go.Proofs.YtcjoinhngdfdmaaGreatDoor
open Go.RowKit
set_option linter.unusedVariables false
set_option maxHeartbeats 1000000

set_option maxRecDepth 100000
attribute [local go_sem ↓] append_appS copy_copS clear_clrS make_mkS cell_row frozen_row heap_drew heap_drewN heap_alloc heap_past heap_setCell heap_putRow loadSe storeSe loadIns storeIns loadEv storeEv loadRg storeRg sec_kd sec_li sec_wo sec_va sec_sn insc_op insc_a insc_b insc_c insc_im evc_kd evc_co evc_li evc_wo evc_va coc_id coc_ru coc_reg coc_pr coc_pc coc_qb coc_wt
attribute [local go_sem] rowCell_some rowFrozen_some rowHas_some rowIn_some rowPart_full rowPut_full rowSet_some run_loadS run_storeS run_appS run_copS run_clrS run_mkS loadW_at storeW_at fit_all fit_le one_int one_bool one_pointer one_slice allOne_list putRow_new ne_size1 ne_size2 wideSe wideIns wideEv wideRg sec_size sec_one sec_lit sec_z sec_ne sec_set0 sec_set1 sec_set2 sec_set3 seZ_kd seZ_li seZ_wo seZ_va seZ_sn insc_size insc_one insc_ne insc_lit insc_z evc_size evc_one evc_ne evc_lit evc_z evc_set0 evc_set1 evc_set2 evc_set3 evc_set4 evZ_kd evZ_co evZ_li evZ_wo evZ_va fold_evc coc_setRu coc_size coc_setPc coc_setWt coc_setReg coc_regs vs_size vs_one
attribute [local simp ↓] heap_drew heap_drewN heap_alloc heap_past heap_setCell heap_putRow
attribute [local simp] rowCell_some rowFrozen_some rowHas_some rowIn_some rowPart_full rowPut_full rowSet_some fit_all putRow_new ne_size1 ne_size2 sec_size insc_size evc_size coc_size coc_setRu coc_setPc coc_setWt coc_setReg vs_size fit_le
attribute [local go_sem] insc_set0 insc_set1 insc_set2 insc_set3 insc_set4 insZ_op insZ_a insZ_b insZ_c insZ_im
/-! ### bellowsref10's Good of anything -/
def badA (i : Ins) : Bool := !(goodR i.a (hasA i.op) && (goodR i.b (hasB i.op) && goodR i.c (hasC i.op)))
theorem goodI_bad (i : Ins) : goodI i = (isOpB i.op && (!badA i && goodM i.im i.op)) := by
  unfold goodI badA
  simp [Bool.and_assoc]
theorem goodR_t {x : Int} (h0 : 0 ≤ x) (h7 : x ≤ 7) : goodR x true = true := by simp [goodR]; omega
theorem goodR_f {x : Int} (h7 : 7 < x) : goodR x true = false := by simp [goodR]; omega
theorem goodR_z {x : Int} (h : x = 0) : goodR x false = true := by simp [goodR, h]
theorem goodR_n {x : Int} (h : x ≠ 0) : goodR x false = false := by simp [goodR, h]
set_option maxHeartbeats 8000000 in
theorem rgood_eq (i : Ins) (h0 : 0 ≤ i.op) (pa : 0 ≤ i.a) (pb : 0 ≤ i.b) (pc : 0 ≤ i.c) (w : World) : Calls Tryz.prog 75 #[.agg (insc i)] w fun e w' => e = .returned (.bool (goodI i)) ∧ w' = w.alloc (.cells (insc i) 33) := by
  have hx : (w.alloc (.cells (insc i) 33)).heap[w.heap.size]? = some (.cells (insc i) 33 (0, 0)) := by simp
  go_enter Tryz.func75, Tryz.ntmps75
  try dsimp only [List.append]
  go_upto_region 1 with (fail)
  generalize hw1 : w.alloc (.cells (insc i) 33) = w1 at hx ⊢
  have HW := Lib.hid hw1
  clear hw1
  generalize w.heap.size = p at hx ⊢
  have z1 : ¬ i.op < 0 := by omega
  by_cases h22 : i.op ≤ 22
  · have z2 : ¬ 22 < i.op := by omega
    have LA := Lib.hid (fun w => rhas_A i.op h0 h22 w)
    have LB := Lib.hid (fun w => rhas_B i.op h0 h22 w)
    have LC := Lib.hid (fun w => rhas_C i.op h0 h22 w)
    have LI := Lib.hid (fun w => rhas_I i.op h0 h22 w)
    have RA := Lib.hid (fun w => rreg i.a w)
    have RB := Lib.hid (fun w => rreg i.b w)
    have RC := Lib.hid (fun w => rreg i.c w)
    have HOP := Lib.hid (show isOpB i.op = true by simp [isOpB]; omega)
    go_upto_region 3 with fail
    go_cut [75] from 12 to 76 (fun c wx => c = .bool (badA i) ∧ wx = w1)
    case first =>
      cases qA : hasA i.op with
      | true => 
        rw [qA] at LA
        by_cases vA : i.a ≤ 7
        · have rA : (decide (0 ≤ i.a) && decide (i.a ≤ 7)) = true := by simp; omega
          rw [rA] at RA
          have gA : goodR i.a (hasA i.op) = true := by rw [qA]; exact goodR_t pa vA
          cases qB : hasB i.op with
          | true => 
            rw [qB] at LB
            by_cases vB : i.b ≤ 7
            · have rB : (decide (0 ≤ i.b) && decide (i.b ≤ 7)) = true := by simp; omega
              rw [rB] at RB
              have gB : goodR i.b (hasB i.op) = true := by rw [qB]; exact goodR_t pb vB
              cases qC : hasC i.op with
              | true => 
                rw [qC] at LC
                by_cases vC : i.c ≤ 7
                · have rC : (decide (0 ≤ i.c) && decide (i.c ≤ 7)) = true := by simp; omega
                  rw [rC] at RC
                  have gC : goodR i.c (hasC i.op) = true := by rw [qC]; exact goodR_t pc vC
                  as_aux_lemma =>
                  have hb : badA i = false := by unfold badA; rw [gA, gB, gC]; rfl
                  go_wp2_with (first | (go_at_call 122; (with_reducible refine (LA.out _).mono ?_); rintro e w' ⟨rfl, rfl⟩) | (go_at_call 122; (with_reducible refine (LB.out _).mono ?_); rintro e w' ⟨rfl, rfl⟩) | (go_at_call 122; (with_reducible refine (LC.out _).mono ?_); rintro e w' ⟨rfl, rfl⟩) | (go_at_call 123; (with_reducible refine (RA.out _).mono ?_); rintro e w' ⟨rfl, rfl⟩) | (go_at_call 123; (with_reducible refine (RB.out _).mono ?_); rintro e w' ⟨rfl, rfl⟩) | (go_at_call 123; (with_reducible refine (RC.out _).mono ?_); rintro e w' ⟨rfl, rfl⟩))
                  go_meet
                  case rel => exact ⟨by rw [hb], rfl⟩
                · have rC : (decide (0 ≤ i.c) && decide (i.c ≤ 7)) = false := by simp; omega
                  rw [rC] at RC
                  have gC : goodR i.c (hasC i.op) = false := by rw [qC]; exact goodR_f (by omega)
                  as_aux_lemma =>
                  have hb : badA i = true := by unfold badA; rw [gA, gB, gC]; simp
                  go_wp2_with (first | (go_at_call 122; (with_reducible refine (LA.out _).mono ?_); rintro e w' ⟨rfl, rfl⟩) | (go_at_call 122; (with_reducible refine (LB.out _).mono ?_); rintro e w' ⟨rfl, rfl⟩) | (go_at_call 122; (with_reducible refine (LC.out _).mono ?_); rintro e w' ⟨rfl, rfl⟩) | (go_at_call 123; (with_reducible refine (RA.out _).mono ?_); rintro e w' ⟨rfl, rfl⟩) | (go_at_call 123; (with_reducible refine (RB.out _).mono ?_); rintro e w' ⟨rfl, rfl⟩) | (go_at_call 123; (with_reducible refine (RC.out _).mono ?_); rintro e w' ⟨rfl, rfl⟩))
                  go_meet
                  case rel => exact ⟨by rw [hb], rfl⟩
              | false =>
                rw [qC] at LC
                by_cases vC : i.c = 0
                · have rC : (i.c != 0) = false := by simp [vC]
                  have gC : goodR i.c (hasC i.op) = true := by rw [qC]; exact goodR_z vC
                  clear vC
                  as_aux_lemma =>
                  have hb : badA i = false := by unfold badA; rw [gA, gB, gC]; rfl
                  go_wp2_with (first | (go_at_call 122; (with_reducible refine (LA.out _).mono ?_); rintro e w' ⟨rfl, rfl⟩) | (go_at_call 122; (with_reducible refine (LB.out _).mono ?_); rintro e w' ⟨rfl, rfl⟩) | (go_at_call 122; (with_reducible refine (LC.out _).mono ?_); rintro e w' ⟨rfl, rfl⟩) | (go_at_call 123; (with_reducible refine (RA.out _).mono ?_); rintro e w' ⟨rfl, rfl⟩) | (go_at_call 123; (with_reducible refine (RB.out _).mono ?_); rintro e w' ⟨rfl, rfl⟩) | (go_at_call 123; (with_reducible refine (RC.out _).mono ?_); rintro e w' ⟨rfl, rfl⟩))
                  go_meet
                  case rel => exact ⟨by rw [hb], rfl⟩
                · have rC : (i.c != 0) = true := by simp [vC]
                  have gC : goodR i.c (hasC i.op) = false := by rw [qC]; exact goodR_n vC
                  clear vC
                  as_aux_lemma =>
                  have hb : badA i = true := by unfold badA; rw [gA, gB, gC]; simp
                  go_wp2_with (first | (go_at_call 122; (with_reducible refine (LA.out _).mono ?_); rintro e w' ⟨rfl, rfl⟩) | (go_at_call 122; (with_reducible refine (LB.out _).mono ?_); rintro e w' ⟨rfl, rfl⟩) | (go_at_call 122; (with_reducible refine (LC.out _).mono ?_); rintro e w' ⟨rfl, rfl⟩) | (go_at_call 123; (with_reducible refine (RA.out _).mono ?_); rintro e w' ⟨rfl, rfl⟩) | (go_at_call 123; (with_reducible refine (RB.out _).mono ?_); rintro e w' ⟨rfl, rfl⟩) | (go_at_call 123; (with_reducible refine (RC.out _).mono ?_); rintro e w' ⟨rfl, rfl⟩))
                  go_meet
                  case rel => exact ⟨by rw [hb], rfl⟩
            · have rB : (decide (0 ≤ i.b) && decide (i.b ≤ 7)) = false := by simp; omega
              rw [rB] at RB
              have gB : goodR i.b (hasB i.op) = false := by rw [qB]; exact goodR_f (by omega)
              as_aux_lemma =>
              have hb : badA i = true := by unfold badA; rw [gA, gB]; simp
              go_wp2_with (first | (go_at_call 122; (with_reducible refine (LA.out _).mono ?_); rintro e w' ⟨rfl, rfl⟩) | (go_at_call 122; (with_reducible refine (LB.out _).mono ?_); rintro e w' ⟨rfl, rfl⟩) | (go_at_call 122; (with_reducible refine (LC.out _).mono ?_); rintro e w' ⟨rfl, rfl⟩) | (go_at_call 123; (with_reducible refine (RA.out _).mono ?_); rintro e w' ⟨rfl, rfl⟩) | (go_at_call 123; (with_reducible refine (RB.out _).mono ?_); rintro e w' ⟨rfl, rfl⟩) | (go_at_call 123; (with_reducible refine (RC.out _).mono ?_); rintro e w' ⟨rfl, rfl⟩))
              go_meet
              case rel => exact ⟨by rw [hb], rfl⟩
          | false =>
            rw [qB] at LB
            by_cases vB : i.b = 0
            · have rB : (i.b != 0) = false := by simp [vB]
              have gB : goodR i.b (hasB i.op) = true := by rw [qB]; exact goodR_z vB
              clear vB
              cases qC : hasC i.op with
              | true => 
                rw [qC] at LC
                by_cases vC : i.c ≤ 7
                · have rC : (decide (0 ≤ i.c) && decide (i.c ≤ 7)) = true := by simp; omega
                  rw [rC] at RC
                  have gC : goodR i.c (hasC i.op) = true := by rw [qC]; exact goodR_t pc vC
                  as_aux_lemma =>
                  have hb : badA i = false := by unfold badA; rw [gA, gB, gC]; rfl
                  go_wp2_with (first | (go_at_call 122; (with_reducible refine (LA.out _).mono ?_); rintro e w' ⟨rfl, rfl⟩) | (go_at_call 122; (with_reducible refine (LB.out _).mono ?_); rintro e w' ⟨rfl, rfl⟩) | (go_at_call 122; (with_reducible refine (LC.out _).mono ?_); rintro e w' ⟨rfl, rfl⟩) | (go_at_call 123; (with_reducible refine (RA.out _).mono ?_); rintro e w' ⟨rfl, rfl⟩) | (go_at_call 123; (with_reducible refine (RB.out _).mono ?_); rintro e w' ⟨rfl, rfl⟩) | (go_at_call 123; (with_reducible refine (RC.out _).mono ?_); rintro e w' ⟨rfl, rfl⟩))
                  go_meet
                  case rel => exact ⟨by rw [hb], rfl⟩
                · have rC : (decide (0 ≤ i.c) && decide (i.c ≤ 7)) = false := by simp; omega
                  rw [rC] at RC
                  have gC : goodR i.c (hasC i.op) = false := by rw [qC]; exact goodR_f (by omega)
                  as_aux_lemma =>
                  have hb : badA i = true := by unfold badA; rw [gA, gB, gC]; simp
                  go_wp2_with (first | (go_at_call 122; (with_reducible refine (LA.out _).mono ?_); rintro e w' ⟨rfl, rfl⟩) | (go_at_call 122; (with_reducible refine (LB.out _).mono ?_); rintro e w' ⟨rfl, rfl⟩) | (go_at_call 122; (with_reducible refine (LC.out _).mono ?_); rintro e w' ⟨rfl, rfl⟩) | (go_at_call 123; (with_reducible refine (RA.out _).mono ?_); rintro e w' ⟨rfl, rfl⟩) | (go_at_call 123; (with_reducible refine (RB.out _).mono ?_); rintro e w' ⟨rfl, rfl⟩) | (go_at_call 123; (with_reducible refine (RC.out _).mono ?_); rintro e w' ⟨rfl, rfl⟩))
                  go_meet
                  case rel => exact ⟨by rw [hb], rfl⟩
              | false =>
                rw [qC] at LC
                by_cases vC : i.c = 0
                · have rC : (i.c != 0) = false := by simp [vC]
                  have gC : goodR i.c (hasC i.op) = true := by rw [qC]; exact goodR_z vC
                  clear vC
                  as_aux_lemma =>
                  have hb : badA i = false := by unfold badA; rw [gA, gB, gC]; rfl
                  go_wp2_with (first | (go_at_call 122; (with_reducible refine (LA.out _).mono ?_); rintro e w' ⟨rfl, rfl⟩) | (go_at_call 122; (with_reducible refine (LB.out _).mono ?_); rintro e w' ⟨rfl, rfl⟩) | (go_at_call 122; (with_reducible refine (LC.out _).mono ?_); rintro e w' ⟨rfl, rfl⟩) | (go_at_call 123; (with_reducible refine (RA.out _).mono ?_); rintro e w' ⟨rfl, rfl⟩) | (go_at_call 123; (with_reducible refine (RB.out _).mono ?_); rintro e w' ⟨rfl, rfl⟩) | (go_at_call 123; (with_reducible refine (RC.out _).mono ?_); rintro e w' ⟨rfl, rfl⟩))
                  go_meet
                  case rel => exact ⟨by rw [hb], rfl⟩
                · have rC : (i.c != 0) = true := by simp [vC]
                  have gC : goodR i.c (hasC i.op) = false := by rw [qC]; exact goodR_n vC
                  clear vC
                  as_aux_lemma =>
                  have hb : badA i = true := by unfold badA; rw [gA, gB, gC]; simp
                  go_wp2_with (first | (go_at_call 122; (with_reducible refine (LA.out _).mono ?_); rintro e w' ⟨rfl, rfl⟩) | (go_at_call 122; (with_reducible refine (LB.out _).mono ?_); rintro e w' ⟨rfl, rfl⟩) | (go_at_call 122; (with_reducible refine (LC.out _).mono ?_); rintro e w' ⟨rfl, rfl⟩) | (go_at_call 123; (with_reducible refine (RA.out _).mono ?_); rintro e w' ⟨rfl, rfl⟩) | (go_at_call 123; (with_reducible refine (RB.out _).mono ?_); rintro e w' ⟨rfl, rfl⟩) | (go_at_call 123; (with_reducible refine (RC.out _).mono ?_); rintro e w' ⟨rfl, rfl⟩))
                  go_meet
                  case rel => exact ⟨by rw [hb], rfl⟩
            · have rB : (i.b != 0) = true := by simp [vB]
              have gB : goodR i.b (hasB i.op) = false := by rw [qB]; exact goodR_n vB
              clear vB
              as_aux_lemma =>
              have hb : badA i = true := by unfold badA; rw [gA, gB]; simp
              go_wp2_with (first | (go_at_call 122; (with_reducible refine (LA.out _).mono ?_); rintro e w' ⟨rfl, rfl⟩) | (go_at_call 122; (with_reducible refine (LB.out _).mono ?_); rintro e w' ⟨rfl, rfl⟩) | (go_at_call 122; (with_reducible refine (LC.out _).mono ?_); rintro e w' ⟨rfl, rfl⟩) | (go_at_call 123; (with_reducible refine (RA.out _).mono ?_); rintro e w' ⟨rfl, rfl⟩) | (go_at_call 123; (with_reducible refine (RB.out _).mono ?_); rintro e w' ⟨rfl, rfl⟩) | (go_at_call 123; (with_reducible refine (RC.out _).mono ?_); rintro e w' ⟨rfl, rfl⟩))
              go_meet
              case rel => exact ⟨by rw [hb], rfl⟩
        · have rA : (decide (0 ≤ i.a) && decide (i.a ≤ 7)) = false := by simp; omega
          rw [rA] at RA
          have gA : goodR i.a (hasA i.op) = false := by rw [qA]; exact goodR_f (by omega)
          as_aux_lemma =>
          have hb : badA i = true := by unfold badA; rw [gA]; simp
          go_wp2_with (first | (go_at_call 122; (with_reducible refine (LA.out _).mono ?_); rintro e w' ⟨rfl, rfl⟩) | (go_at_call 122; (with_reducible refine (LB.out _).mono ?_); rintro e w' ⟨rfl, rfl⟩) | (go_at_call 122; (with_reducible refine (LC.out _).mono ?_); rintro e w' ⟨rfl, rfl⟩) | (go_at_call 123; (with_reducible refine (RA.out _).mono ?_); rintro e w' ⟨rfl, rfl⟩) | (go_at_call 123; (with_reducible refine (RB.out _).mono ?_); rintro e w' ⟨rfl, rfl⟩) | (go_at_call 123; (with_reducible refine (RC.out _).mono ?_); rintro e w' ⟨rfl, rfl⟩))
          go_meet
          case rel => exact ⟨by rw [hb], rfl⟩
      | false =>
        rw [qA] at LA
        by_cases vA : i.a = 0
        · have rA : (i.a != 0) = false := by simp [vA]
          have gA : goodR i.a (hasA i.op) = true := by rw [qA]; exact goodR_z vA
          clear vA
          cases qB : hasB i.op with
          | true => 
            rw [qB] at LB
            by_cases vB : i.b ≤ 7
            · have rB : (decide (0 ≤ i.b) && decide (i.b ≤ 7)) = true := by simp; omega
              rw [rB] at RB
              have gB : goodR i.b (hasB i.op) = true := by rw [qB]; exact goodR_t pb vB
              cases qC : hasC i.op with
              | true => 
                rw [qC] at LC
                by_cases vC : i.c ≤ 7
                · have rC : (decide (0 ≤ i.c) && decide (i.c ≤ 7)) = true := by simp; omega
                  rw [rC] at RC
                  have gC : goodR i.c (hasC i.op) = true := by rw [qC]; exact goodR_t pc vC
                  as_aux_lemma =>
                  have hb : badA i = false := by unfold badA; rw [gA, gB, gC]; rfl
                  go_wp2_with (first | (go_at_call 122; (with_reducible refine (LA.out _).mono ?_); rintro e w' ⟨rfl, rfl⟩) | (go_at_call 122; (with_reducible refine (LB.out _).mono ?_); rintro e w' ⟨rfl, rfl⟩) | (go_at_call 122; (with_reducible refine (LC.out _).mono ?_); rintro e w' ⟨rfl, rfl⟩) | (go_at_call 123; (with_reducible refine (RA.out _).mono ?_); rintro e w' ⟨rfl, rfl⟩) | (go_at_call 123; (with_reducible refine (RB.out _).mono ?_); rintro e w' ⟨rfl, rfl⟩) | (go_at_call 123; (with_reducible refine (RC.out _).mono ?_); rintro e w' ⟨rfl, rfl⟩))
                  go_meet
                  case rel => exact ⟨by rw [hb], rfl⟩
                · have rC : (decide (0 ≤ i.c) && decide (i.c ≤ 7)) = false := by simp; omega
                  rw [rC] at RC
                  have gC : goodR i.c (hasC i.op) = false := by rw [qC]; exact goodR_f (by omega)
                  as_aux_lemma =>
                  have hb : badA i = true := by unfold badA; rw [gA, gB, gC]; simp
                  go_wp2_with (first | (go_at_call 122; (with_reducible refine (LA.out _).mono ?_); rintro e w' ⟨rfl, rfl⟩) | (go_at_call 122; (with_reducible refine (LB.out _).mono ?_); rintro e w' ⟨rfl, rfl⟩) | (go_at_call 122; (with_reducible refine (LC.out _).mono ?_); rintro e w' ⟨rfl, rfl⟩) | (go_at_call 123; (with_reducible refine (RA.out _).mono ?_); rintro e w' ⟨rfl, rfl⟩) | (go_at_call 123; (with_reducible refine (RB.out _).mono ?_); rintro e w' ⟨rfl, rfl⟩) | (go_at_call 123; (with_reducible refine (RC.out _).mono ?_); rintro e w' ⟨rfl, rfl⟩))
                  go_meet
                  case rel => exact ⟨by rw [hb], rfl⟩
              | false =>
                rw [qC] at LC
                by_cases vC : i.c = 0
                · have rC : (i.c != 0) = false := by simp [vC]
                  have gC : goodR i.c (hasC i.op) = true := by rw [qC]; exact goodR_z vC
                  clear vC
                  as_aux_lemma =>
                  have hb : badA i = false := by unfold badA; rw [gA, gB, gC]; rfl
                  go_wp2_with (first | (go_at_call 122; (with_reducible refine (LA.out _).mono ?_); rintro e w' ⟨rfl, rfl⟩) | (go_at_call 122; (with_reducible refine (LB.out _).mono ?_); rintro e w' ⟨rfl, rfl⟩) | (go_at_call 122; (with_reducible refine (LC.out _).mono ?_); rintro e w' ⟨rfl, rfl⟩) | (go_at_call 123; (with_reducible refine (RA.out _).mono ?_); rintro e w' ⟨rfl, rfl⟩) | (go_at_call 123; (with_reducible refine (RB.out _).mono ?_); rintro e w' ⟨rfl, rfl⟩) | (go_at_call 123; (with_reducible refine (RC.out _).mono ?_); rintro e w' ⟨rfl, rfl⟩))
                  go_meet
                  case rel => exact ⟨by rw [hb], rfl⟩
                · have rC : (i.c != 0) = true := by simp [vC]
                  have gC : goodR i.c (hasC i.op) = false := by rw [qC]; exact goodR_n vC
                  clear vC
                  as_aux_lemma =>
                  have hb : badA i = true := by unfold badA; rw [gA, gB, gC]; simp
                  go_wp2_with (first | (go_at_call 122; (with_reducible refine (LA.out _).mono ?_); rintro e w' ⟨rfl, rfl⟩) | (go_at_call 122; (with_reducible refine (LB.out _).mono ?_); rintro e w' ⟨rfl, rfl⟩) | (go_at_call 122; (with_reducible refine (LC.out _).mono ?_); rintro e w' ⟨rfl, rfl⟩) | (go_at_call 123; (with_reducible refine (RA.out _).mono ?_); rintro e w' ⟨rfl, rfl⟩) | (go_at_call 123; (with_reducible refine (RB.out _).mono ?_); rintro e w' ⟨rfl, rfl⟩) | (go_at_call 123; (with_reducible refine (RC.out _).mono ?_); rintro e w' ⟨rfl, rfl⟩))
                  go_meet
                  case rel => exact ⟨by rw [hb], rfl⟩
            · have rB : (decide (0 ≤ i.b) && decide (i.b ≤ 7)) = false := by simp; omega
              rw [rB] at RB
              have gB : goodR i.b (hasB i.op) = false := by rw [qB]; exact goodR_f (by omega)
              as_aux_lemma =>
              have hb : badA i = true := by unfold badA; rw [gA, gB]; simp
              go_wp2_with (first | (go_at_call 122; (with_reducible refine (LA.out _).mono ?_); rintro e w' ⟨rfl, rfl⟩) | (go_at_call 122; (with_reducible refine (LB.out _).mono ?_); rintro e w' ⟨rfl, rfl⟩) | (go_at_call 122; (with_reducible refine (LC.out _).mono ?_); rintro e w' ⟨rfl, rfl⟩) | (go_at_call 123; (with_reducible refine (RA.out _).mono ?_); rintro e w' ⟨rfl, rfl⟩) | (go_at_call 123; (with_reducible refine (RB.out _).mono ?_); rintro e w' ⟨rfl, rfl⟩) | (go_at_call 123; (with_reducible refine (RC.out _).mono ?_); rintro e w' ⟨rfl, rfl⟩))
              go_meet
              case rel => exact ⟨by rw [hb], rfl⟩
          | false =>
            rw [qB] at LB
            by_cases vB : i.b = 0
            · have rB : (i.b != 0) = false := by simp [vB]
              have gB : goodR i.b (hasB i.op) = true := by rw [qB]; exact goodR_z vB
              clear vB
              cases qC : hasC i.op with
              | true => 
                rw [qC] at LC
                by_cases vC : i.c ≤ 7
                · have rC : (decide (0 ≤ i.c) && decide (i.c ≤ 7)) = true := by simp; omega
                  rw [rC] at RC
                  have gC : goodR i.c (hasC i.op) = true := by rw [qC]; exact goodR_t pc vC
                  as_aux_lemma =>
                  have hb : badA i = false := by unfold badA; rw [gA, gB, gC]; rfl
                  go_wp2_with (first | (go_at_call 122; (with_reducible refine (LA.out _).mono ?_); rintro e w' ⟨rfl, rfl⟩) | (go_at_call 122; (with_reducible refine (LB.out _).mono ?_); rintro e w' ⟨rfl, rfl⟩) | (go_at_call 122; (with_reducible refine (LC.out _).mono ?_); rintro e w' ⟨rfl, rfl⟩) | (go_at_call 123; (with_reducible refine (RA.out _).mono ?_); rintro e w' ⟨rfl, rfl⟩) | (go_at_call 123; (with_reducible refine (RB.out _).mono ?_); rintro e w' ⟨rfl, rfl⟩) | (go_at_call 123; (with_reducible refine (RC.out _).mono ?_); rintro e w' ⟨rfl, rfl⟩))
                  go_meet
                  case rel => exact ⟨by rw [hb], rfl⟩
                · have rC : (decide (0 ≤ i.c) && decide (i.c ≤ 7)) = false := by simp; omega
                  rw [rC] at RC
                  have gC : goodR i.c (hasC i.op) = false := by rw [qC]; exact goodR_f (by omega)
                  as_aux_lemma =>
                  have hb : badA i = true := by unfold badA; rw [gA, gB, gC]; simp
                  go_wp2_with (first | (go_at_call 122; (with_reducible refine (LA.out _).mono ?_); rintro e w' ⟨rfl, rfl⟩) | (go_at_call 122; (with_reducible refine (LB.out _).mono ?_); rintro e w' ⟨rfl, rfl⟩) | (go_at_call 122; (with_reducible refine (LC.out _).mono ?_); rintro e w' ⟨rfl, rfl⟩) | (go_at_call 123; (with_reducible refine (RA.out _).mono ?_); rintro e w' ⟨rfl, rfl⟩) | (go_at_call 123; (with_reducible refine (RB.out _).mono ?_); rintro e w' ⟨rfl, rfl⟩) | (go_at_call 123; (with_reducible refine (RC.out _).mono ?_); rintro e w' ⟨rfl, rfl⟩))
                  go_meet
                  case rel => exact ⟨by rw [hb], rfl⟩
              | false =>
                rw [qC] at LC
                by_cases vC : i.c = 0
                · have rC : (i.c != 0) = false := by simp [vC]
                  have gC : goodR i.c (hasC i.op) = true := by rw [qC]; exact goodR_z vC
                  clear vC
                  as_aux_lemma =>
                  have hb : badA i = false := by unfold badA; rw [gA, gB, gC]; rfl
                  go_wp2_with (first | (go_at_call 122; (with_reducible refine (LA.out _).mono ?_); rintro e w' ⟨rfl, rfl⟩) | (go_at_call 122; (with_reducible refine (LB.out _).mono ?_); rintro e w' ⟨rfl, rfl⟩) | (go_at_call 122; (with_reducible refine (LC.out _).mono ?_); rintro e w' ⟨rfl, rfl⟩) | (go_at_call 123; (with_reducible refine (RA.out _).mono ?_); rintro e w' ⟨rfl, rfl⟩) | (go_at_call 123; (with_reducible refine (RB.out _).mono ?_); rintro e w' ⟨rfl, rfl⟩) | (go_at_call 123; (with_reducible refine (RC.out _).mono ?_); rintro e w' ⟨rfl, rfl⟩))
                  go_meet
                  case rel => exact ⟨by rw [hb], rfl⟩
                · have rC : (i.c != 0) = true := by simp [vC]
                  have gC : goodR i.c (hasC i.op) = false := by rw [qC]; exact goodR_n vC
                  clear vC
                  as_aux_lemma =>
                  have hb : badA i = true := by unfold badA; rw [gA, gB, gC]; simp
                  go_wp2_with (first | (go_at_call 122; (with_reducible refine (LA.out _).mono ?_); rintro e w' ⟨rfl, rfl⟩) | (go_at_call 122; (with_reducible refine (LB.out _).mono ?_); rintro e w' ⟨rfl, rfl⟩) | (go_at_call 122; (with_reducible refine (LC.out _).mono ?_); rintro e w' ⟨rfl, rfl⟩) | (go_at_call 123; (with_reducible refine (RA.out _).mono ?_); rintro e w' ⟨rfl, rfl⟩) | (go_at_call 123; (with_reducible refine (RB.out _).mono ?_); rintro e w' ⟨rfl, rfl⟩) | (go_at_call 123; (with_reducible refine (RC.out _).mono ?_); rintro e w' ⟨rfl, rfl⟩))
                  go_meet
                  case rel => exact ⟨by rw [hb], rfl⟩
            · have rB : (i.b != 0) = true := by simp [vB]
              have gB : goodR i.b (hasB i.op) = false := by rw [qB]; exact goodR_n vB
              clear vB
              as_aux_lemma =>
              have hb : badA i = true := by unfold badA; rw [gA, gB]; simp
              go_wp2_with (first | (go_at_call 122; (with_reducible refine (LA.out _).mono ?_); rintro e w' ⟨rfl, rfl⟩) | (go_at_call 122; (with_reducible refine (LB.out _).mono ?_); rintro e w' ⟨rfl, rfl⟩) | (go_at_call 122; (with_reducible refine (LC.out _).mono ?_); rintro e w' ⟨rfl, rfl⟩) | (go_at_call 123; (with_reducible refine (RA.out _).mono ?_); rintro e w' ⟨rfl, rfl⟩) | (go_at_call 123; (with_reducible refine (RB.out _).mono ?_); rintro e w' ⟨rfl, rfl⟩) | (go_at_call 123; (with_reducible refine (RC.out _).mono ?_); rintro e w' ⟨rfl, rfl⟩))
              go_meet
              case rel => exact ⟨by rw [hb], rfl⟩
        · have rA : (i.a != 0) = true := by simp [vA]
          have gA : goodR i.a (hasA i.op) = false := by rw [qA]; exact goodR_n vA
          clear vA
          as_aux_lemma =>
          have hb : badA i = true := by unfold badA; rw [gA]; simp
          go_wp2_with (first | (go_at_call 122; (with_reducible refine (LA.out _).mono ?_); rintro e w' ⟨rfl, rfl⟩) | (go_at_call 122; (with_reducible refine (LB.out _).mono ?_); rintro e w' ⟨rfl, rfl⟩) | (go_at_call 122; (with_reducible refine (LC.out _).mono ?_); rintro e w' ⟨rfl, rfl⟩) | (go_at_call 123; (with_reducible refine (RA.out _).mono ?_); rintro e w' ⟨rfl, rfl⟩) | (go_at_call 123; (with_reducible refine (RB.out _).mono ?_); rintro e w' ⟨rfl, rfl⟩) | (go_at_call 123; (with_reducible refine (RC.out _).mono ?_); rintro e w' ⟨rfl, rfl⟩))
          go_meet
          case rel => exact ⟨by rw [hb], rfl⟩
    case rest =>
      obtain ⟨rfl, rfl⟩ := hcut
      have HGI := Lib.hid (show goodI i = (!badA i && goodM i.im i.op) by rw [goodI_bad, HOP.out, Bool.true_and])
      cases hb : badA i with
      | true =>
        as_aux_lemma =>
        have hgi : goodI i = false := by rw [HGI.out, hb]; rfl
        go_wp2_with fail
        go_ret
        exact ⟨by first | rfl | (rw [hgi]; rfl) | rw [hgi], HW.out.symm⟩
      | false =>
        cases qI : hasI i.op with
        | false =>
          rw [qI] at LI
          as_aux_lemma =>
          cases z : (i.im == 0)
          all_goals
            have hm : goodM i.im i.op = (i.im == 0) := by unfold goodM goodMb; rw [qI]; rfl
            rw [z] at hm
            have hgi := HGI.out
            rw [hb, hm] at hgi
            go_wp2_with (first | (go_at_call 122; (with_reducible refine (LI.out _).mono ?_); rintro e w' ⟨rfl, rfl⟩))
            go_ret
            exact ⟨by first | rfl | (rw [hgi]; rfl) | rw [hgi], HW.out.symm⟩
        | true =>
          rw [qI] at LI
          by_cases o17 : i.op = 17
          · have hj : jumpB i.op = true := by rw [o17]; rfl
            have j17 : (i.op == 17) = true := by simp; omega
            clear o17
            by_cases m1 : -2147483648 ≤ i.im
            · by_cases m2 : i.im < 2147483648
              · by_cases m3 : 0 ≤ i.im
                · have hm : goodM i.im i.op = true := by unfold goodM goodMb; rw [qI, hj]; simp; omega
                  have d3 : decide (0 ≤ i.im) = true := by simp [m3]
                  clear m3
                  as_aux_lemma =>
                  have hgi := HGI.out
                  rw [hb, hm] at hgi
                  go_wp2_with (first | (go_at_call 122; (with_reducible refine (LI.out _).mono ?_); rintro e w' ⟨rfl, rfl⟩))
                  go_ret
                  exact ⟨by first | rfl | (rw [hgi]; rfl) | rw [hgi], HW.out.symm⟩
                · have hm : goodM i.im i.op = false := by unfold goodM goodMb; rw [qI, hj]; simp; omega
                  have d3 : decide (0 ≤ i.im) = false := by simp [m3]
                  clear m3
                  as_aux_lemma =>
                  have hgi := HGI.out
                  rw [hb, hm] at hgi
                  go_wp2_with (first | (go_at_call 122; (with_reducible refine (LI.out _).mono ?_); rintro e w' ⟨rfl, rfl⟩))
                  go_ret
                  exact ⟨by first | rfl | (rw [hgi]; rfl) | rw [hgi], HW.out.symm⟩
              · have hm : goodM i.im i.op = false := by unfold goodM goodMb; rw [qI, hj]; simp; omega
                as_aux_lemma =>
                have hgi := HGI.out
                rw [hb, hm] at hgi
                go_wp2_with (first | (go_at_call 122; (with_reducible refine (LI.out _).mono ?_); rintro e w' ⟨rfl, rfl⟩))
                go_ret
                exact ⟨by first | rfl | (rw [hgi]; rfl) | rw [hgi], HW.out.symm⟩
            · have hm : goodM i.im i.op = false := by unfold goodM goodMb; rw [qI, hj]; simp; omega
              as_aux_lemma =>
              have hgi := HGI.out
              rw [hb, hm] at hgi
              go_wp2_with (first | (go_at_call 122; (with_reducible refine (LI.out _).mono ?_); rintro e w' ⟨rfl, rfl⟩))
              go_ret
              exact ⟨by first | rfl | (rw [hgi]; rfl) | rw [hgi], HW.out.symm⟩
          by_cases o18 : i.op = 18
          · have hj : jumpB i.op = true := by rw [o18]; rfl
            have j17 : (i.op == 17) = false := by simp; omega
            have j18 : (i.op == 18) = true := by simp; omega
            clear o18
            by_cases m1 : -2147483648 ≤ i.im
            · by_cases m2 : i.im < 2147483648
              · by_cases m3 : 0 ≤ i.im
                · have hm : goodM i.im i.op = true := by unfold goodM goodMb; rw [qI, hj]; simp; omega
                  have d3 : decide (0 ≤ i.im) = true := by simp [m3]
                  clear m3
                  as_aux_lemma =>
                  have hgi := HGI.out
                  rw [hb, hm] at hgi
                  go_wp2_with (first | (go_at_call 122; (with_reducible refine (LI.out _).mono ?_); rintro e w' ⟨rfl, rfl⟩))
                  go_ret
                  exact ⟨by first | rfl | (rw [hgi]; rfl) | rw [hgi], HW.out.symm⟩
                · have hm : goodM i.im i.op = false := by unfold goodM goodMb; rw [qI, hj]; simp; omega
                  have d3 : decide (0 ≤ i.im) = false := by simp [m3]
                  clear m3
                  as_aux_lemma =>
                  have hgi := HGI.out
                  rw [hb, hm] at hgi
                  go_wp2_with (first | (go_at_call 122; (with_reducible refine (LI.out _).mono ?_); rintro e w' ⟨rfl, rfl⟩))
                  go_ret
                  exact ⟨by first | rfl | (rw [hgi]; rfl) | rw [hgi], HW.out.symm⟩
              · have hm : goodM i.im i.op = false := by unfold goodM goodMb; rw [qI, hj]; simp; omega
                as_aux_lemma =>
                have hgi := HGI.out
                rw [hb, hm] at hgi
                go_wp2_with (first | (go_at_call 122; (with_reducible refine (LI.out _).mono ?_); rintro e w' ⟨rfl, rfl⟩))
                go_ret
                exact ⟨by first | rfl | (rw [hgi]; rfl) | rw [hgi], HW.out.symm⟩
            · have hm : goodM i.im i.op = false := by unfold goodM goodMb; rw [qI, hj]; simp; omega
              as_aux_lemma =>
              have hgi := HGI.out
              rw [hb, hm] at hgi
              go_wp2_with (first | (go_at_call 122; (with_reducible refine (LI.out _).mono ?_); rintro e w' ⟨rfl, rfl⟩))
              go_ret
              exact ⟨by first | rfl | (rw [hgi]; rfl) | rw [hgi], HW.out.symm⟩
          by_cases o19 : i.op = 19
          · have hj : jumpB i.op = true := by rw [o19]; rfl
            have j17 : (i.op == 17) = false := by simp; omega
            have j18 : (i.op == 18) = false := by simp; omega
            have j19 : (i.op == 19) = true := by simp; omega
            clear o19
            by_cases m1 : -2147483648 ≤ i.im
            · by_cases m2 : i.im < 2147483648
              · by_cases m3 : 0 ≤ i.im
                · have hm : goodM i.im i.op = true := by unfold goodM goodMb; rw [qI, hj]; simp; omega
                  have d3 : decide (0 ≤ i.im) = true := by simp [m3]
                  clear m3
                  as_aux_lemma =>
                  have hgi := HGI.out
                  rw [hb, hm] at hgi
                  go_wp2_with (first | (go_at_call 122; (with_reducible refine (LI.out _).mono ?_); rintro e w' ⟨rfl, rfl⟩))
                  go_ret
                  exact ⟨by first | rfl | (rw [hgi]; rfl) | rw [hgi], HW.out.symm⟩
                · have hm : goodM i.im i.op = false := by unfold goodM goodMb; rw [qI, hj]; simp; omega
                  have d3 : decide (0 ≤ i.im) = false := by simp [m3]
                  clear m3
                  as_aux_lemma =>
                  have hgi := HGI.out
                  rw [hb, hm] at hgi
                  go_wp2_with (first | (go_at_call 122; (with_reducible refine (LI.out _).mono ?_); rintro e w' ⟨rfl, rfl⟩))
                  go_ret
                  exact ⟨by first | rfl | (rw [hgi]; rfl) | rw [hgi], HW.out.symm⟩
              · have hm : goodM i.im i.op = false := by unfold goodM goodMb; rw [qI, hj]; simp; omega
                as_aux_lemma =>
                have hgi := HGI.out
                rw [hb, hm] at hgi
                go_wp2_with (first | (go_at_call 122; (with_reducible refine (LI.out _).mono ?_); rintro e w' ⟨rfl, rfl⟩))
                go_ret
                exact ⟨by first | rfl | (rw [hgi]; rfl) | rw [hgi], HW.out.symm⟩
            · have hm : goodM i.im i.op = false := by unfold goodM goodMb; rw [qI, hj]; simp; omega
              as_aux_lemma =>
              have hgi := HGI.out
              rw [hb, hm] at hgi
              go_wp2_with (first | (go_at_call 122; (with_reducible refine (LI.out _).mono ?_); rintro e w' ⟨rfl, rfl⟩))
              go_ret
              exact ⟨by first | rfl | (rw [hgi]; rfl) | rw [hgi], HW.out.symm⟩
          by_cases o20 : i.op = 20
          · have hj : jumpB i.op = true := by rw [o20]; rfl
            have j17 : (i.op == 17) = false := by simp; omega
            have j18 : (i.op == 18) = false := by simp; omega
            have j19 : (i.op == 19) = false := by simp; omega
            have j20 : (i.op == 20) = true := by simp; omega
            clear o20
            by_cases m1 : -2147483648 ≤ i.im
            · by_cases m2 : i.im < 2147483648
              · by_cases m3 : 0 ≤ i.im
                · have hm : goodM i.im i.op = true := by unfold goodM goodMb; rw [qI, hj]; simp; omega
                  have d3 : decide (0 ≤ i.im) = true := by simp [m3]
                  clear m3
                  as_aux_lemma =>
                  have hgi := HGI.out
                  rw [hb, hm] at hgi
                  go_wp2_with (first | (go_at_call 122; (with_reducible refine (LI.out _).mono ?_); rintro e w' ⟨rfl, rfl⟩))
                  go_ret
                  exact ⟨by first | rfl | (rw [hgi]; rfl) | rw [hgi], HW.out.symm⟩
                · have hm : goodM i.im i.op = false := by unfold goodM goodMb; rw [qI, hj]; simp; omega
                  have d3 : decide (0 ≤ i.im) = false := by simp [m3]
                  clear m3
                  as_aux_lemma =>
                  have hgi := HGI.out
                  rw [hb, hm] at hgi
                  go_wp2_with (first | (go_at_call 122; (with_reducible refine (LI.out _).mono ?_); rintro e w' ⟨rfl, rfl⟩))
                  go_ret
                  exact ⟨by first | rfl | (rw [hgi]; rfl) | rw [hgi], HW.out.symm⟩
              · have hm : goodM i.im i.op = false := by unfold goodM goodMb; rw [qI, hj]; simp; omega
                as_aux_lemma =>
                have hgi := HGI.out
                rw [hb, hm] at hgi
                go_wp2_with (first | (go_at_call 122; (with_reducible refine (LI.out _).mono ?_); rintro e w' ⟨rfl, rfl⟩))
                go_ret
                exact ⟨by first | rfl | (rw [hgi]; rfl) | rw [hgi], HW.out.symm⟩
            · have hm : goodM i.im i.op = false := by unfold goodM goodMb; rw [qI, hj]; simp; omega
              as_aux_lemma =>
              have hgi := HGI.out
              rw [hb, hm] at hgi
              go_wp2_with (first | (go_at_call 122; (with_reducible refine (LI.out _).mono ?_); rintro e w' ⟨rfl, rfl⟩))
              go_ret
              exact ⟨by first | rfl | (rw [hgi]; rfl) | rw [hgi], HW.out.symm⟩
          have j17 : (i.op == 17) = false := by simp; omega
          have j18 : (i.op == 18) = false := by simp; omega
          have j19 : (i.op == 19) = false := by simp; omega
          have j20 : (i.op == 20) = false := by simp; omega
          have hj : jumpB i.op = false := by simp [jumpB]; omega
          by_cases m1 : -2147483648 ≤ i.im
          · by_cases m2 : i.im < 2147483648
            · have hm : goodM i.im i.op = true := by unfold goodM goodMb; rw [qI, hj]; simp; omega
              as_aux_lemma =>
              have hgi := HGI.out
              rw [hb, hm] at hgi
              go_wp2_with (first | (go_at_call 122; (with_reducible refine (LI.out _).mono ?_); rintro e w' ⟨rfl, rfl⟩))
              go_ret
              exact ⟨by first | rfl | (rw [hgi]; rfl) | rw [hgi], HW.out.symm⟩
            · have hm : goodM i.im i.op = false := by unfold goodM goodMb; rw [qI, hj]; simp; omega
              as_aux_lemma =>
              have hgi := HGI.out
              rw [hb, hm] at hgi
              go_wp2_with (first | (go_at_call 122; (with_reducible refine (LI.out _).mono ?_); rintro e w' ⟨rfl, rfl⟩))
              go_ret
              exact ⟨by first | rfl | (rw [hgi]; rfl) | rw [hgi], HW.out.symm⟩
          · have hm : goodM i.im i.op = false := by unfold goodM goodMb; rw [qI, hj]; simp; omega
            as_aux_lemma =>
            have hgi := HGI.out
            rw [hb, hm] at hgi
            go_wp2_with (first | (go_at_call 122; (with_reducible refine (LI.out _).mono ?_); rintro e w' ⟨rfl, rfl⟩))
            go_ret
            exact ⟨by first | rfl | (rw [hgi]; rfl) | rw [hgi], HW.out.symm⟩
  · have z2 : 22 < i.op := by omega
    have hg : goodI i = false := by rw [goodI_bad, show isOpB i.op = false by simp [isOpB]; omega]; rfl
    go_wp2_with fail
    go_ret
    exact ⟨by first | rfl | (rw [hg]; rfl) | rw [hg], HW.out.symm⟩
end Go.Proofs.YtcjoinhngdfdmaaGreatDoor
end
