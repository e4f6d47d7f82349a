/- Texts of the walk, one behind the other: Mey2 Psa Psb Psc Psd. No condition. -/
import Derived.Test.YtadeoflkppiflaaGreatDoorOaa
import Derived.Test.YtadeoflkppiflaaGreatDoorOaq
import Derived.LaidMore
import Derived.SevenTiedAt
import Derived.Test.YtadeoflkppiflaaGreatDoorCards
import Derived.Test.YtadeoflkppiflaaGreatDoorTie
section
namespace Go.Proofs.YtadeoflkppiflaaGreatDoor
open Go.ChangeShapes Go.WideShapes Go.ChangeAt Go.RowKit
set_option linter.unusedVariables false

theorem own : ownKnob Tryz.prog.godebug = none := by kernel_rfl
theorem laidOut : laidOutB Tryz.prog = true := by kernel_rfl

/-- What a list of two variables gives: their blocks. -/
theorem block_of_laid2 {P : Program} {W : World} {name name' : String} {d d' : DataW Unit} {g g' : Nat} {t t' : TypeId} {n n' : Nat}
    (hg : P.globalNamed name = some g) (hty : (P.globals[g]?).map (·.type) = some t) (hp : plainTy P n t = true)
    (hg' : P.globalNamed name' = some g') (hty' : (P.globals[g']?).map (·.type) = some t') (hp' : plainTy P n' t' = true)
    (hpl : ([(name, d), (name', d')].all fun x => x.2.handleName?.isNone) = true) (h : laidMetH P [(name, d), (name', d')] W) :
    (∃ ty f, W.heap[g]? = some (.cells (flat d).toArray ty f)) ∧ ∃ ty f, W.heap[g']? = some (.cells (flat d').toArray ty f) := by
  rw [MakeChecks.laidMetH_plain _ _ _ hpl] at h
  obtain ⟨ps, ⟨g1, t1, cs, fuel, p, q, hg1, ht1, hvar, hd, ⟨g2, t2, cs2, fuel2, p2, q2, hg2, ht2, hvar2, hd2, _, _⟩, _⟩, _⟩ := h
  obtain rfl := Option.some.inj (hg.symm.trans hg1)
  obtain rfl := Option.some.inj (hty.symm.trans ht1)
  obtain rfl := Option.some.inj (hg'.symm.trans hg2)
  obtain rfl := Option.some.inj (hty'.symm.trans ht2)
  have e := trod_flat n t hp _ _ _ hd
  have e2 := trod_flat n' t' hp' _ _ _ hd2
  refine ⟨?_, ?_⟩
  · unfold World.var? at hvar
    rw [hg] at hvar
    simp only [Option.bind_some] at hvar
    split at hvar
    · rename_i c ty f hh
      injection hvar with hvar
      subst hvar
      refine ⟨ty, f, ?_⟩
      rw [hh, ← show c.toList = flat d from e]
    · cases hvar
  · unfold World.var? at hvar2
    rw [hg'] at hvar2
    simp only [Option.bind_some] at hvar2
    split at hvar2
    · rename_i c ty f hh
      injection hvar2 with hvar2
      subst hvar2
      refine ⟨ty, f, ?_⟩
      rw [hh, ← show c.toList = flat d' from e2]
    · cases hvar2
def laidM : List (String × DataW Unit) := [("bellows/msg.mayHave", Rows.laid_bellows_msg_mayHave), ("bellows/agent.becomes", Rows.laid_bellows_agent_becomes)]
theorem gMay : Tryz.prog.globalNamed "bellows/msg.mayHave" = some 1 := by kernel_rfl
theorem tMay : (Tryz.prog.globals[1]?).map (·.type) = some 264 := by kernel_rfl
theorem gBec : Tryz.prog.globalNamed "bellows/agent.becomes" = some 0 := by kernel_rfl
theorem tBec : (Tryz.prog.globals[0]?).map (·.type) = some 227 := by kernel_rfl
theorem flatMay : flat (H := Unit) Rows.laid_bellows_msg_mayHave = tabL := by rfl
theorem flatBec : flat (H := Unit) Rows.laid_bellows_agent_becomes = tbL := by rfl
theorem tabs_of_laid {W : World} (h : laidMetH Tryz.prog laidM W) : Tabs W := by
  have := block_of_laid2 (n := 9) (n' := 9) gMay tMay (by kernel_rfl) gBec tBec (by kernel_rfl) (by kernel_rfl) h
  rw [flatMay, flatBec] at this
  exact this
theorem door_met (os : Os) (args : Array Value) : laidMetH Tryz.prog laidM ((World.doorLaid Tryz.prog 200 os).forCall (fun _ _ => 0) ⟨#[], args, []⟩).memory :=
  laidMetH_of_parts3 (fuel := 8) (laidMet_of_run' 8 (by kernel_rfl) (by kernel_rfl)) (by kernel_rfl) (by kernel_rfl)
theorem to_below {e : Ending} {W w' : World} (h : e = .returned (.bool true) ∧ Chg [] W w') : e = .returned (.bool true) ∧ Below W.heap.size W w' := ⟨h.1, h.2.below (Nat.le_refl _) (by simp)⟩
def kCfg : List Kd := [.int .i64, .int .i64, .int .i64, .int .i64, .int .i64, .int .i64, .int .i64]
theorem kinds_cfg : kinds Tryz.prog 9 23 = some kCfg := by kernel_rfl
theorem kinds_msts : kinds Tryz.prog 9 25 = some [.slice kMst] := by kernel_rfl
theorem cfg_cells {w : World} {cs : List Value} (h : AreKd w kCfg cs) : ∃ a b c d e f g : Int, cs = [.int .i64 a, .int .i64 b, .int .i64 c, .int .i64 d, .int .i64 e, .int .i64 f, .int .i64 g] := by
  obtain ⟨v0, c0, rfl, h0, hA⟩ := AreKd.head h
  obtain ⟨v1, c1, rfl, h1, hB⟩ := AreKd.head hA
  obtain ⟨v2, c2, rfl, h2, hC⟩ := AreKd.head hB
  obtain ⟨v3, c3, rfl, h3, hD⟩ := AreKd.head hC
  obtain ⟨v4, c4, rfl, h4, hE⟩ := AreKd.head hD
  obtain ⟨v5, c5, rfl, h5, hF⟩ := AreKd.head hE
  obtain ⟨v6, c6, rfl, h6, hG⟩ := AreKd.head hF
  obtain rfl := AreKd.done hG
  simp only [IsKd] at h0 h1 h2 h3 h4 h5 h6
  obtain ⟨a, rfl, _⟩ := h0
  obtain ⟨b, rfl, _⟩ := h1
  obtain ⟨c, rfl, _⟩ := h2
  obtain ⟨d, rfl, _⟩ := h3
  obtain ⟨e, rfl, _⟩ := h4
  obtain ⟨f, rfl, _⟩ := h5
  obtain ⟨g, rfl, _⟩ := h6
  exact ⟨a, b, c, d, e, f, g, rfl⟩
end Go.Proofs.YtadeoflkppiflaaGreatDoor
end
section
namespace Go.Proofs.YtadeoflkppiflaaGreatDoor
open Go.RowKit
set_option linter.unusedVariables false
set_option maxHeartbeats 1000000

/-! ### An agent at rest -/
theorem AJ.idle {S N n : Nat} {s : Sta} (h : AJ S N n s) (hv : ∀ i : Nat, i < n → (vw s i).1 ≤ 3) : idleB s.1 = true := by
  unfold idleB
  rw [List.all_eq_true]
  intro x hx
  unfold restB
  by_cases h0 : x.st = 0
  · simp [h0]
  · obtain ⟨i, hi⟩ := List.getElem?_of_mem hx
    have h1 := (h.good.home i x hi h0).1
    have h2 := h.lines x hx h0
    have h3 := (h.once.find hi h0).2.1
    have h4 := h.once.pos x hx h0
    have h5 := hv x.li.toNat (by omega)
    rw [Int.toNat_of_nonneg h1] at h5
    unfold vw at h5
    rw [h3] at h5
    unfold atRest
    simp at h5 ⊢
    omega
theorem AJ.dropFree {S N n : Nat} {s : Sta} (h : AJ S N n s) {v li : Int} (hv : (vw s v).1 ≠ 0) (hs : setOf S v = setOf S li) (h0 : 0 ≤ li) : roomFree S N (dropS s v).1 li = true := by
  rcases find_old h.once v with ⟨i, z, hi, hz0, hzl, hfv, hf⟩ | ⟨hf, _⟩
  · have hl := (List.getElem?_eq_some_iff.1 hi).1
    have e : (dropS s v).1 = s.1.set i sltZ := by
      show dropXs s.1 v = _
      unfold dropXs
      rw [hf]
    rw [e]
    have hh := (h.good.home i z hi hz0).2
    rw [hzl, hs] at hh
    obtain ⟨k, hk, hik⟩ := mod_of (by have := h.good.way1; omega) hh
    have hsl : (s.1.set i sltZ).length = S * N := by rw [List.length_set]; exact h.good.len
    have hg : (seg N (s.1.set i sltZ) (setOf S li))[k]? = some sltZ := by
      rw [seg_get _ _ _ hk, ← hik, List.getElem?_set]
      simp [hl]
    have hlen := seg_length hsl (h.good.set_lt li)
    have : (seg N (s.1.set i sltZ) (setOf S li)).findIdx pFree < (seg N (s.1.set i sltZ) (setOf S li)).length := List.findIdx_lt_length_of_exists ⟨sltZ, List.mem_of_getElem? hg, rfl⟩
    rw [hlen] at this
    unfold roomFree
    simp [h0, this]
  · unfold vw at hv
    rw [hf] at hv
    exact absurd rfl hv
theorem eldStep_pos (ys : List Slt) (a : Int × Int) (h : 0 ≤ a.1 ∨ ∃ y ∈ ys, atRest y.st = true) (hp : ∀ y ∈ ys, atRest y.st = true → 0 ≤ y.li) : 0 ≤ (ys.foldl eldStep a).1 := by
  induction ys generalizing a with
  | nil =>
    rcases h with h | ⟨y, hy, _⟩
    · exact h
    · cases hy
  | cons y ys ih =>
    rw [List.foldl_cons]
    apply ih
    · by_cases hr : atRest y.st = true
      · left
        unfold eldStep
        have := hp y (by simp) hr
        split
        · exact this
        · rename_i hc
          rw [hr] at hc
          simp at hc
          omega
      · rcases h with h | ⟨z, hz, hzr⟩
        · left
          unfold eldStep
          rw [if_neg (by simp [hr])]
          exact h
        · rcases List.mem_cons.1 hz with rfl | hz
          · exact absurd hzr hr
          · exact .inr ⟨z, hz, hzr⟩
    · exact fun z hz hzr => hp z (by simp [hz]) hzr
/-- Where there is no room a line of the set may go. -/
theorem AJ.victim {S N n : Nat} {s : Sta} (h : AJ S N n s) (hi : idleB s.1 = true) {li : Int} (h0 : 0 ≤ li) (hr : roomFree S N s.1 li = false) : atRest (findVal s.1 (roomVic S N s.1 li)).st = true ∧ setOf S (roomVic S N s.1 li) = setOf S li := by
  have hset := h.good.set_lt li
  have hlen := h.good.seg_len li
  have hw := h.good.way1
  have hnf : ¬ (seg N s.1 (setOf S li)).findIdx pFree < N := by
    intro e
    unfold roomFree at hr
    simp [h0, e] at hr
  have hvic : roomVic S N s.1 li = eld (seg N s.1 (setOf S li)) := by unfold roomVic; rw [if_neg (by omega), if_neg hnf]
  have hmem : ∀ y ∈ seg N s.1 (setOf S li), ∃ i, s.1[i]? = some y ∧ i / N = setOf S li := by
    intro y hy
    obtain ⟨k, hk⟩ := List.getElem?_of_mem hy
    have hkl := (List.getElem?_eq_some_iff.1 hk).1
    rw [hlen] at hkl
    rw [seg_get _ _ _ hkl] at hk
    exact ⟨_, hk, div_of hkl rfl⟩
  have hrest : ∀ y ∈ seg N s.1 (setOf S li), atRest y.st = true := by
    intro y hy
    have h1 := List.all_eq_true.1 hi y (seg_mem hy)
    unfold restB at h1
    rw [Bool.or_eq_true] at h1
    rcases h1 with h1 | h1
    · exfalso
      apply hnf
      have : (seg N s.1 (setOf S li)).findIdx pFree < (seg N s.1 (setOf S li)).length := List.findIdx_lt_length_of_exists ⟨y, hy, h1⟩
      omega
    · exact h1
  have hst : ∀ y ∈ seg N s.1 (setOf S li), y.st ≠ 0 := by
    intro y hy e
    have h1 := hrest y hy
    rw [e] at h1
    exact absurd h1 (by decide)
  have hpos : ∀ y ∈ seg N s.1 (setOf S li), atRest y.st = true → 0 ≤ y.li := by
    intro y hy hr'
    obtain ⟨i, hi', _⟩ := hmem y hy
    exact (h.good.home i y hi' (hst y hy)).1
  have hne : ∃ y, y ∈ seg N s.1 (setOf S li) := by
    have : 0 < (seg N s.1 (setOf S li)).length := by omega
    exact ⟨_, List.getElem_mem this⟩
  obtain ⟨y0, hy0⟩ := hne
  have hv : 0 ≤ eld (seg N s.1 (setOf S li)) := eldStep_pos _ _ (.inr ⟨y0, hy0, hrest y0 hy0⟩) hpos
  rw [hvic]
  refine ⟨eld_rest hi hv, ?_⟩
  obtain ⟨x, hx, _, hxl⟩ := eld_mem hv
  obtain ⟨i, hi', hd⟩ := hmem x hx
  rw [← hxl, ← hd]
  exact ((h.good.home i x hi' (hst x hx)).2).symm

/-! ### Nothing is on its way -/
structure Quiet (c : Cg) (S : Mst) : Prop where
  q : ∀ j, j < c.co → (atP S.ps j).up = [] ∧ (atP S.ps j).an = [] ∧ (atP S.ps j).dn = []
  bu : ∀ e ∈ S.en, e.bu = 0
section
variable {c : Cg} {n : Nat} {S : Mst} {cur : Nat → List Int} (h : Inv c n S cur) (hq : Quiet c S)
include h hq
/-- What a core has of a line then. -/
theorem Quiet.line {i : Nat} {e : En} (he : S.en[i]? = some e) {j : Nat} (hj : j < c.co) :
    (e.ow ≠ (j : Int) ∧ hasM e.sh j = false ∧ vst (atP S.ps j) i = 0) ∨ (e.ow ≠ (j : Int) ∧ hasM e.sh j = true ∧ vst (atP S.ps j) i = 1 ∧ vln (atP S.ps j) i = cur i) ∨
    (e.ow = (j : Int) ∧ hasM e.sh j = false ∧ (vst (atP S.ps j) i = 2 ∨ vst (atP S.ps j) i = 3) ∧ vln (atP S.ps j) i = cur i) := by
  have hl := h.ln i e he
  have hb := hq.bu e (List.mem_of_getElem? he)
  obtain ⟨q1, q2, q3⟩ := hq.q j hj
  have hr := hl.rel j hj
  have e1 : upL (atP S.ps j) i = [] := by unfold upL; rw [q1]; rfl
  have e2 : anL (atP S.ps j) i = [] := by unfold anL; rw [q2]; rfl
  have e3 : dnL (atP S.ps j) i = [] := by unfold dnL; rw [q3]; rfl
  rw [e1, e2, bOf_0 hb] at hr
  generalize hst : vst (atP S.ps j) i = st at hr ⊢
  generalize hln : vln (atP S.ps j) i = l at hr ⊢
  generalize how : decide (e.ow = (j : Int)) = ow at hr
  generalize hsh : hasM e.sh (j : Int) = sh at hr ⊢
  generalize hwa : hasM e.wa (j : Int) = wa at hr
  generalize dnL (atP S.ps j) i = D at e3 hr
  cases hr with
  | base hb' =>
    subst e3
    cases hb' with
    | i => exact .inl ⟨by simpa using how, rfl, rfl⟩
    | r1 => exact .inr (.inl ⟨by simpa using how, rfl, rfl, rfl⟩)
    | o2 => exact .inr (.inr ⟨by simpa using how, rfl, .inl rfl, rfl⟩)
    | o3 => exact .inr (.inr ⟨by simpa using how, rfl, .inr rfl, rfl⟩)
  | told a h1 => exact absurd e3 (by simp)
theorem Quiet.idle {j : Nat} (hj : j < c.co) : idleB (atP S.ps j).s.1 = true := by
  have aj := (h.pt j hj).aj
  refine aj.idle fun i hi => ?_
  obtain ⟨e, he, _⟩ := h.entry hi
  have h0 := aj.sane1 (i : Int)
  have e1 : vst (atP S.ps j) i = (vw (atP S.ps j).s i).1.toNat := rfl
  rcases hq.line h he hj with ⟨_, _, h1⟩ | ⟨_, _, h1, _⟩ | ⟨_, _, h1, _⟩ <;> omega
end
end Go.Proofs.YtadeoflkppiflaaGreatDoor
end
section
namespace Go.Proofs.YtadeoflkppiflaaGreatDoor
open Go.RowKit
set_option linter.unusedVariables false
set_option maxHeartbeats 1000000

/-! ### What each call does, in words -/
section
variable {c : Cg} {S : Mst} (hl : S.ps.length = c.co) {j : Nat} (hj : j < c.co)
include hl hj
theorem portAt_nat : portAt c S (j : Int) = some (atP S.ps j) := by
  unfold portAt
  rw [if_pos (inB_iff.2 ⟨by omega, by omega⟩), Int.toNat_natCast]
  exact atP_mem (by omega)
theorem upM_nil (hu : (atP S.ps j).up = []) : (upM c S j).1 = S := by
  unfold upM
  rw [portAt_nat hl hj]
  dsimp only
  rw [hu]
theorem answerM_nil (hu : (atP S.ps j).an = []) : (answerM c S j).1 = S := by
  unfold answerM
  rw [portAt_nat hl hj]
  dsimp only
  rw [hu]
theorem hearM_nil (hu : (atP S.ps j).dn = []) : (hearM c S j).1 = S := by
  unfold hearM
  rw [portAt_nat hl hj]
  dsimp only
  rw [hu]
theorem upM_cons {m : Ms} {rest : List Ms} (hu : (atP S.ps j).up = m :: rest) {e : En} (he : S.en[m.li.toNat]? = some e) {r : En × List Sd} (ha : askE (hereP e (lnG S.X m.li.toNat) (lnG_len _ _)) j m = (r, 0)) :
    (upM c S j).1 = ⟨sendP (S.ps.set j { atP S.ps j with up := rest }) r.2, S.en.set m.li.toNat r.1, S.es, S.xs⟩ := by
  unfold upM
  rw [portAt_nat hl hj]
  dsimp only
  rw [hu]
  dsimp only
  rw [he]
  dsimp only
  rw [ha, if_pos rfl, Int.toNat_natCast]
theorem answerM_cons {m : Ms} {rest : List Ms} (hu : (atP S.ps j).an = m :: rest) {e : En} (he : S.en[m.li.toNat]? = some e) {r : En × List Sd} (ha : ansE e j m = (r, 0)) :
    (answerM c S j).1 = ⟨sendP (S.ps.set j { atP S.ps j with an := rest }) r.2, S.en.set m.li.toNat r.1, S.es, S.xs⟩ := by
  unfold answerM
  rw [portAt_nat hl hj]
  dsimp only
  rw [hu]
  dsimp only
  rw [he]
  dsimp only
  rw [ha, if_pos rfl, Int.toNat_natCast]
theorem hearM_cons {m : Ms} {rest : List Ms} (hu : (atP S.ps j).dn = m :: rest) (h0 : (hearF c.se c.wa (atP S.ps j).s m).2.2 = 0) :
    (hearM c S j).1 = ⟨S.ps.set j { atP S.ps j with s := (hearF c.se c.wa (atP S.ps j).s m).1, an := (atP S.ps j).an ++ (hearF c.se c.wa (atP S.ps j).s m).2.1, dn := rest }, S.en, S.es, S.xs⟩ := by
  unfold hearM
  rw [portAt_nat hl hj]
  dsimp only
  rw [hu]
  dsimp only
  rw [if_pos h0]
  unfold Mst.put
  rw [Int.toNat_natCast]
end
theorem pushM_off {c : Cg} {S : Mst} {l : Nat} {e : En} (he : S.en[l]? = some e) (hr : readyE e = false) : (pushM c S l).1 = S := by
  unfold pushM
  split
  · rw [Int.toNat_natCast, he]
    dsimp only
    rw [if_neg (by simp [hr])]
  · rfl
theorem readyE_0 {e : En} (hb : e.bu ≠ 4 ∧ e.bu ≠ 5) : readyE e = false := by
  unfold readyE
  simp [hb]
theorem drainM_eq {c : Cg} {S : Mst} {l : Nat} (hl : l < c.li) : (drainM c S l).1 = ⟨S.ps, S.en, drainEs S.es l, drainXs S.xs S.es l⟩ := by
  unfold drainM
  rw [if_pos (inB_iff.2 ⟨by omega, by omega⟩)]

theorem has_bitI (c : Int) (hc : isC c = true) (d : Int) : hasM (bitM c) d = decide (c = d) := by rw [has_bit, hc, Bool.true_and]

/-! ### A request's way -/
/-- What it leaves of its line's entry. -/
def Fin9 (k : Nat) (m : Ms) (e0 e : En) : Prop :=
  (m.kd = 1 → (e.ow = (k : Int) ∨ hasM e.sh k = true) ∧ (e0.ow = -1 → e.di = e0.di)) ∧ (m.kd = 2 → e.ow = (k : Int)) ∧ (m.kd = 3 → e0.he = true → e = (putE e0 k m).1) ∧ (m.kd = 4 ∨ m.kd = 5 → e.he = true ∧ e.ow = -1 ∧ e.di = false)
/-- Whose request it is, of which line, what the entries were. -/
structure Req (c : Cg) (k i : Nat) (m : Ms) (en0 : List En) (e0 : En) (Z : Prop) : Prop where
  hk : k < c.co
  hi : i < c.li
  hm : m.li = (i : Int)
  hb : ∀ e ∈ en0, e.bu = 0
  he : en0[i]? = some e0
  hz : m.kd = 4 ∨ m.kd = 5 → Z
/-- It was asked. -/
structure PA (c : Cg) (k i : Nat) (m : Ms) (en0 : List En) (sK : Sta) (Z : Prop) (S : Mst) : Prop where
  q : ∀ j, j < c.co → (atP S.ps j).up = (if j = k then [m] else []) ∧ (atP S.ps j).an = [] ∧ (atP S.ps j).dn = []
  en : S.en = en0
  sk : (atP S.ps k).s = sK
  es : Z → S.es = []
/-- Somebody has to answer. -/
structure PW (c : Cg) (k i : Nat) (m : Ms) (en0 : List En) (e0 : En) (Z : Prop) (e : En) (S : Mst) : Prop where
  up : ∀ j, j < c.co → (atP S.ps j).up = []
  q : ∀ j, j < c.co → (hasM e.wa j = false ∧ (atP S.ps j).an = [] ∧ (atP S.ps j).dn = []) ∨ (hasM e.wa j = true ∧ (atP S.ps j).an = [] ∧ ∃ a, (atP S.ps j).dn = [a] ∧ a.li = (i : Int)) ∨ (hasM e.wa j = true ∧ (atP S.ps j).dn = [] ∧ ∃ a, (atP S.ps j).an = [a] ∧ a.li = (i : Int))
  at' : S.en[i]? = some e
  oth : ∀ p, p ≠ i → S.en[p]? = en0[p]?
  bu : e.bu = m.kd
  kd : m.kd = 1 ∨ m.kd = 2 ∨ m.kd = 4 ∨ m.kd = 5
  by' : e.by_ = (k : Int)
  k1 : m.kd = 1 → e0.ow ≠ -1
  fl : m.kd = 4 ∨ m.kd = 5 → e.he = true ∧ (e.ow = -1 ∨ hasM e.wa e.ow = true)
  es : Z → S.es = []
/-- It is being told. -/
structure PD (c : Cg) (k i : Nat) (m : Ms) (en0 : List En) (e0 : En) (sK : Sta) (Z : Prop) (e : En) (S : Mst) : Prop where
  ex : ∃ a : Ms, (a.kd ≠ 12 ∧ a.kd ≠ 13) ∧ (m.kd = 3 → a.kd = 11 ∧ a.li = (i : Int)) ∧ ∀ j, j < c.co → (atP S.ps j).up = [] ∧ (atP S.ps j).an = [] ∧ (atP S.ps j).dn = if j = k then [a] else []
  at' : S.en[i]? = some e
  oth : ∀ p, p ≠ i → S.en[p]? = en0[p]?
  bu : e.bu = 0
  fin : Fin9 k m e0 e
  sk : m.kd = 3 → (atP S.ps k).s = sK
  es : Z → S.es = []
/-- It is done. -/
structure PQ (c : Cg) (k i : Nat) (m : Ms) (en0 : List En) (e0 : En) (sK : Sta) (Z : Prop) (e : En) (S : Mst) : Prop where
  q : Quiet c S
  at' : S.en[i]? = some e
  oth : ∀ p, p ≠ i → S.en[p]? = en0[p]?
  fin : Fin9 k m e0 e
  sk : m.kd = 3 → (atP S.ps k).s = dropS sK i
  es : Z → S.es = []
/-- All queues are short. -/
def Short (c : Cg) (S : Mst) : Prop := ∀ j, j < c.co → (atP S.ps j).up.length ≤ 1 ∧ (atP S.ps j).an.length ≤ 1 ∧ (atP S.ps j).dn.length ≤ 1

section
variable {c : Cg} {k i : Nat} {m : Ms} {en0 : List En} {e0 e : En} {sK : Sta} {Z : Prop} {S : Mst}
theorem PA.short (h : PA c k i m en0 sK Z S) : Short c S := by
  intro j hj
  obtain ⟨q1, q2, q3⟩ := h.q j hj
  rw [q1, q2, q3]
  refine ⟨?_, by simp, by simp⟩
  split <;> simp
theorem PW.short (h : PW c k i m en0 e0 Z e S) : Short c S := by
  intro j hj
  rw [h.up j hj]
  rcases h.q j hj with ⟨_, q1, q2⟩ | ⟨_, q1, a, q2, _⟩ | ⟨_, q1, a, q2, _⟩ <;> rw [q1, q2] <;> simp
theorem PD.short (h : PD c k i m en0 e0 sK Z e S) : Short c S := by
  intro j hj
  obtain ⟨a, _, _, hq⟩ := h.ex
  obtain ⟨q1, q2, q3⟩ := hq j hj
  rw [q1, q2, q3]
  refine ⟨by simp, by simp, ?_⟩
  split <;> simp
theorem Quiet.short (h : Quiet c S) : Short c S := by
  intro j hj
  obtain ⟨q1, q2, q3⟩ := h.q j hj
  rw [q1, q2, q3]
  simp
variable {n : Nat} {cur : Nat → List Int} (R : Req c k i m en0 e0 Z) (h : Inv c n S cur)
theorem PD.other (R : Req c k i m en0 e0 Z) (w : PD c k i m en0 e0 sK Z e S) : ∀ x ∈ S.en, x.bu = 0 := by
  intro x hx
  obtain ⟨p, hp⟩ := List.getElem?_of_mem hx
  by_cases hpi : p = i
  · subst hpi
    rw [w.at'] at hp
    injection hp with hp
    rw [← hp]; exact w.bu
  · rw [w.oth p hpi] at hp
    exact R.hb x (List.mem_of_getElem? hp)
/-- The answer goes to the one that asked. -/
theorem PD.make (hk : k < c.co) (h8 : c.co ≤ 8) (ps1 : List Pt) (en1 : List En) (es1 : List Ent) (xs1 : List Int) (hl : ps1.length = c.co) (hq : ∀ j, j < c.co → (atP ps1 j).up = [] ∧ (atP ps1 j).an = [] ∧ (atP ps1 j).dn = []) (a : Ms) (e' : En) (ha : a.kd ≠ 12 ∧ a.kd ≠ 13) (ha3 : m.kd = 3 → a.kd = 11 ∧ a.li = (i : Int))
    (hi : i < en1.length) (ho : ∀ p, p ≠ i → en1[p]? = en0[p]?) (hb : e'.bu = 0) (hf : Fin9 k m e0 e') (hsk : m.kd = 3 → (atP ps1 k).s = sK) (hes : Z → es1 = []) :
    PD c k i m en0 e0 sK Z e' ⟨sendP ps1 (tellL (bitM (k : Int)) a), en1.set i e', es1, xs1⟩ := by
  have hC : isC (k : Int) = true := isC_cast (by omega)
  obtain ⟨h1, h2⟩ := sendP_tell (bitM (k : Int)) a ps1 (fun j hj hh => by rw [has_bitN _ hC, decide_eq_true_eq] at hh; omega)
  have hat : ∀ j, j < c.co → atP (sendP ps1 (tellL (bitM (k : Int)) a)) j = if j = k then { atP ps1 j with dn := (atP ps1 j).dn ++ [a] } else atP ps1 j := by
    intro j hj
    rw [h2 j (by omega), has_bitN _ hC]
    by_cases hjk : j = k
    · subst hjk; simp
    · rw [if_neg (by simp; omega), if_neg hjk]
  refine ⟨⟨a, ha, ha3, fun j hj => ?_⟩, ?_, fun p hp => ?_, hb, hf, fun h3 => ?_, hes⟩
  · obtain ⟨q1, q2, q3⟩ := hq j hj
    show (atP (sendP ps1 (tellL (bitM (k : Int)) a)) j).up = [] ∧ (atP (sendP ps1 (tellL (bitM (k : Int)) a)) j).an = [] ∧ (atP (sendP ps1 (tellL (bitM (k : Int)) a)) j).dn = _
    rw [hat j hj]
    by_cases hjk : j = k
    · rw [if_pos hjk, if_pos hjk]
      exact ⟨q1, q2, by show (atP ps1 j).dn ++ [a] = _; rw [q3]; rfl⟩
    · rw [if_neg hjk, if_neg hjk]
      exact ⟨q1, q2, q3⟩
  · show (en1.set i e')[i]? = _
    rw [List.getElem?_set]; simp [hi]
  · show (en1.set i e')[p]? = _
    rw [List.getElem?_set_ne (fun e => hp e.symm)]
    exact ho p hp
  · show (atP (sendP ps1 (tellL (bitM (k : Int)) a)) k).s = sK
    rw [hat k hk, if_pos rfl]
    exact hsk h3
/-- The memory writes. -/
theorem PA.drained (w : PA c k i m en0 sK Z S) (l : Int) : PA c k i m en0 sK Z ⟨S.ps, S.en, drainEs S.es l, drainXs S.xs S.es l⟩ := ⟨w.q, w.en, w.sk, fun z => by show drainEs S.es l = []; rw [w.es z]; rfl⟩
theorem PW.drained (w : PW c k i m en0 e0 Z e S) (l : Int) : PW c k i m en0 e0 Z e ⟨S.ps, S.en, drainEs S.es l, drainXs S.xs S.es l⟩ := ⟨w.up, w.q, w.at', w.oth, w.bu, w.kd, w.by', w.k1, w.fl, fun z => by show drainEs S.es l = []; rw [w.es z]; rfl⟩
theorem PD.drained (w : PD c k i m en0 e0 sK Z e S) (l : Int) : PD c k i m en0 e0 sK Z e ⟨S.ps, S.en, drainEs S.es l, drainXs S.xs S.es l⟩ := ⟨w.ex, w.at', w.oth, w.bu, w.fin, w.sk, fun z => by show drainEs S.es l = []; rw [w.es z]; rfl⟩
theorem PQ.drained (w : PQ c k i m en0 e0 sK Z e S) (l : Int) : PQ c k i m en0 e0 sK Z e ⟨S.ps, S.en, drainEs S.es l, drainXs S.xs S.es l⟩ := ⟨⟨w.q.q, w.q.bu⟩, w.at', w.oth, w.fin, w.sk, fun z => by show drainEs S.es l = []; rw [w.es z]; rfl⟩
include R h
/-- A core hears what it asked for. -/
theorem PD.hear (w : PD c k i m en0 e0 sK Z e S) : PQ c k i m en0 e0 sK Z e (hearM c S k).1 := by
  have hk := R.hk
  obtain ⟨a, ha, ha3, hq⟩ := w.ex
  obtain ⟨q1, q2, q3⟩ := hq k hk
  rw [if_pos rfl] at q3
  obtain ⟨t1, t2, t3, t4, t5⟩ := h.hear hk (atP_mem (by rw [h.co]; exact hk)) q3
  have aj := (h.pt k hk).aj
  obtain ⟨m1, m2, m3⟩ := (h.pt k hk).fd a (by rw [q3]; simp)
  have hg : (mg a && tellsB a.kd) = true := by rw [m1, m2]; rfl
  have hv : (hearF c.se c.wa (atP S.ps k).s a).2.1 = [] := by
    rw [(aj.hearF hg m3 t1).2.1]
    show answersL _ _ _ = []
    unfold answersL
    rw [if_neg ha.1, if_neg ha.2]
  rw [hearM_cons h.co hk q3 t2, hv, q2]
  have hkl : k < S.ps.length := by rw [h.co]; exact hk
  have hoth := PD.other R w
  refine ⟨⟨fun j hj => ?_, fun x hx => hoth x hx⟩, w.at', w.oth, w.fin, fun h3 => ?_, w.es⟩
  · show (atP (S.ps.set k _) j).up = [] ∧ (atP (S.ps.set k _) j).an = [] ∧ (atP (S.ps.set k _) j).dn = []
    rw [atP_set hkl]
    split
    · exact ⟨q1, rfl, rfl⟩
    · rename_i hjk
      obtain ⟨p1, p2, p3⟩ := hq j hj
      rw [if_neg hjk] at p3
      exact ⟨p1, p2, p3⟩
  · show (atP (S.ps.set k _) k).s = _
    rw [atP_set hkl, if_pos rfl]
    obtain ⟨a1, a2⟩ := ha3 h3
    show (hearF c.se c.wa (atP S.ps k).s a).1 = _
    have ht : tb a.kd (findVal (atP S.ps k).s.1 a.li).st = 10 := by
      have h0 : tb a.kd (findVal (atP S.ps k).s.1 a.li).st ≠ 0 := t1
      rw [a1] at h0 ⊢
      unfold tb at h0 ⊢
      simp at h0 ⊢
      omega
    unfold hearF
    rw [if_pos hg, if_neg (by rw [ht]; decide), ht]
    unfold hearX
    rw [if_pos rfl, w.sk h3, a2]
/-- One that has to answer hears that. -/
theorem PW.hear (w : PW c k i m en0 e0 Z e S) {j : Nat} (hj : j < c.co) {a : Ms} (q3 : (atP S.ps j).dn = [a]) : PW c k i m en0 e0 Z e (hearM c S j).1 ∧ ∀ p, p < c.co → (atP (hearM c S j).1.ps p).dn = if p = j then [] else (atP S.ps p).dn := by
  have _R := R
  have hjl : j < S.ps.length := by rw [h.co]; exact hj
  have hwa : hasM e.wa j = true ∧ (atP S.ps j).an = [] := by
    rcases w.q j hj with ⟨_, _, q2⟩ | ⟨q1, q2, _⟩ | ⟨_, q2, _⟩
    · rw [q3] at q2; cases q2
    · exact ⟨q1, q2⟩
    · rw [q3] at q2; cases q2
  obtain ⟨t1, t2, t3, t4, t5⟩ := h.hear hj (atP_mem hjl) q3
  have hS := hearM_cons h.co hj q3 t2
  have t5' : Inv c (n + 1) (hearM c S j).1 cur := (h.hearM j).1
  rw [hS] at t5' ⊢
  rw [hwa.2] at t5' ⊢
  rw [List.nil_append] at t5' ⊢
  generalize hAV : (hearF c.se c.wa (atP S.ps j).s a).2.1 = av at t3 t5' ⊢
  generalize hSV : (hearF c.se c.wa (atP S.ps j).s a).1 = sv at t5' ⊢
  have hat : ∀ p, atP (S.ps.set j { atP S.ps j with s := sv, an := av, dn := [] }) p = if p = j then { atP S.ps j with s := sv, an := av, dn := [] } else atP S.ps p := fun p => atP_set hjl _ p
  have hav : ∃ b, av = [b] ∧ b.li = (i : Int) := by
    have hr := (t5'.ln i e w.at').rel j hj
    dsimp only at hr
    rw [hat, if_pos rfl, hwa.1] at hr
    have e1 : anL ({ atP S.ps j with s := sv, an := av, dn := [] } : Pt) i = av.filter (fun m => m.li == (i : Int)) := rfl
    have e2 : dnL ({ atP S.ps j with s := sv, an := av, dn := [] } : Pt) i = [] := rfl
    rw [e1, e2] at hr
    generalize hF : av.filter (fun m => m.li == (i : Int)) = F at hr
    generalize hDD : ([] : List Ms) = DD at hr
    generalize bOf e j = bb at hr
    cases hr with
    | told b hb => exact absurd hDD (by simp)
    | ack b hb =>
      have hbm : b ∈ av.filter (fun m => m.li == (i : Int)) := by rw [hF]; simp
      rw [List.mem_filter] at hbm
      match av, t3, hbm.1 with
      | [x], _, hx =>
        rw [List.mem_singleton] at hx
        subst hx
        exact ⟨b, rfl, by simpa using hbm.2⟩
  obtain ⟨b, rfl, hbl⟩ := hav
  refine ⟨⟨fun p hp => ?_, fun p hp => ?_, w.at', w.oth, w.bu, w.kd, w.by', w.k1, w.fl, w.es⟩, fun p hp => ?_⟩
  · show (atP (S.ps.set j _) p).up = []
    rw [hat]
    split
    · exact w.up j hj
    · exact w.up p hp
  · show (hasM e.wa p = false ∧ (atP (S.ps.set j _) p).an = [] ∧ (atP (S.ps.set j _) p).dn = []) ∨ (hasM e.wa p = true ∧ (atP (S.ps.set j _) p).an = [] ∧ ∃ a, (atP (S.ps.set j _) p).dn = [a] ∧ a.li = (i : Int)) ∨ (hasM e.wa p = true ∧ (atP (S.ps.set j _) p).dn = [] ∧ ∃ a, (atP (S.ps.set j _) p).an = [a] ∧ a.li = (i : Int))
    rw [hat]
    split
    · rename_i hpj
      subst hpj
      exact .inr (.inr ⟨hwa.1, rfl, b, rfl, hbl⟩)
    · exact w.q p hp
  · show (atP (S.ps.set j _) p).dn = _
    rw [hat]
    split <;> rfl
/-- An answer reaches the directory. -/
theorem PW.answer (w : PW c k i m en0 e0 Z e S) {j : Nat} (hj : j < c.co) {a : Ms} (q3 : (atP S.ps j).an = [a]) :
    (∃ e', PW c k i m en0 e0 Z e' (answerM c S j).1 ∧ (∀ p, hasM e'.wa p = (hasM e.wa p && !decide (p = (j : Int)))) ∧ ∀ p, p < c.co → (atP (answerM c S j).1.ps p).dn = (atP S.ps p).dn) ∨ ∃ e', PD c k i m en0 e0 sK Z e' (answerM c S j).1 := by
  have hk := R.hk
  have h8 := h.ok.co8
  have hjl : j < S.ps.length := by rw [h.co]; exact hj
  have hC : isC (j : Int) = true := isC_cast (by omega)
  have hwa : hasM e.wa j = true ∧ (atP S.ps j).dn = [] ∧ a.li = (i : Int) := by
    rcases w.q j hj with ⟨_, q2, _⟩ | ⟨_, q2, _⟩ | ⟨q1, q2, b, q4, q5⟩
    · rw [q3] at q2; cases q2
    · rw [q3] at q2; cases q2
    · rw [q3] at q4
      injection q4 with q4 _
      exact ⟨q1, q2, by rw [q4]; exact q5⟩
  obtain ⟨wj, qd, hai⟩ := hwa
  obtain ⟨i', e1, g1, g2, g3, o, a', e2, g4, _⟩ := h.answer hj (atP_mem hjl) q3
  have hii : i' = i := by omega
  subst hii
  rw [w.at'] at g3
  injection g3 with g3
  subst g3
  have hli : a.li.toNat = i' := by omega
  have good := (h.ln i' e w.at').good
  obtain ⟨f1, f2, f3⟩ := answered_good (m := a) good wj
  obtain ⟨a1, a2, a3, a4, a5, a6⟩ := answered_parts e (j : Int) a
  have hil : i' < S.en.length := by rw [h.li]; exact R.hi
  have hres : ansE e (j : Int) a = ((if (answeredE e (j : Int) a).wa ≠ 0#8 then (answeredE e (j : Int) a, []) else settledE (answeredE e (j : Int) a) a.li), 0) := by
    unfold ansE at g4 ⊢
    by_cases hc : ansArg e (j : Int) a = true
    · rw [if_pos hc, if_pos wj]
      split <;> rfl
    · rw [if_neg hc] at g4
      injection g4 with _ g4
      exact absurd g4 (by decide)
  have hS := answerM_cons h.co hj q3 (by rw [hli]; exact w.at') hres
  rw [hli] at hS
  rw [hS]
  have hat : ∀ p, atP (S.ps.set j { atP S.ps j with an := [] }) p = if p = j then { atP S.ps j with an := [] } else atP S.ps p := fun p => atP_set hjl _ p
  have hwa' : ∀ p : Int, hasM (answeredE e (j : Int) a).wa p = (hasM e.wa p && !decide (p = (j : Int))) := by
    intro p
    rw [a6, has_not, has_bitI _ hC]
    congr 2
    exact decide_eq_decide.2 ⟨fun h => h.symm, fun h => h.symm⟩
  have hstay : PW c k i' m en0 e0 Z (answeredE e (j : Int) a) ⟨S.ps.set j { atP S.ps j with an := [] }, S.en.set i' (answeredE e (j : Int) a), S.es, S.xs⟩ ∧ ∀ p, p < c.co → (atP (S.ps.set j { atP S.ps j with an := [] }) p).dn = (atP S.ps p).dn := by
    refine ⟨⟨fun p hp => ?_, fun p hp => ?_, ?_, fun p hp => ?_, a4.trans w.bu, w.kd, a5.trans w.by', w.k1, fun hf => ⟨a1.trans (w.fl hf).1, .inl f1⟩, w.es⟩, fun p hp => ?_⟩
    · show (atP (S.ps.set j _) p).up = []
      rw [hat]
      split
      · exact w.up j hj
      · exact w.up p hp
    · show (hasM _ p = false ∧ (atP (S.ps.set j _) p).an = [] ∧ (atP (S.ps.set j _) p).dn = []) ∨ (hasM _ p = true ∧ (atP (S.ps.set j _) p).an = [] ∧ ∃ a, (atP (S.ps.set j _) p).dn = [a] ∧ a.li = (i' : Int)) ∨ (hasM _ p = true ∧ (atP (S.ps.set j _) p).dn = [] ∧ ∃ a, (atP (S.ps.set j _) p).an = [a] ∧ a.li = (i' : Int))
      rw [hat, hwa']
      by_cases hpj : p = j
      · subst hpj
        rw [if_pos rfl]
        exact .inl ⟨by simp, rfl, qd⟩
      · rw [if_neg hpj]
        have : decide ((p : Int) = (j : Int)) = false := decide_eq_false (by omega)
        rw [this]
        simpa using w.q p hp
    · show (S.en.set i' _)[i']? = _
      rw [List.getElem?_set]; simp [hil]
    · show (S.en.set i' _)[p]? = _
      rw [List.getElem?_set_ne (fun e => hp e.symm)]
      exact w.oth p hp
    · rw [hat]
      split
      · rename_i hpj; subst hpj; rfl
      · rfl
  by_cases hw0 : (answeredE e (j : Int) a).wa ≠ 0#8
  · rw [if_pos hw0]
    exact .inl ⟨_, hstay.1, hwa', hstay.2⟩
  · rw [if_neg hw0]
    have hw0' : (answeredE e (j : Int) a).wa = 0#8 := by simpa using hw0
    have hby : (answeredE e (j : Int) a).by_ = (k : Int) := a5.trans w.by'
    have hbu : (answeredE e (j : Int) a).bu = m.kd := a4.trans w.bu
    have hq : ∀ p, p < c.co → (atP (S.ps.set j { atP S.ps j with an := [] }) p).up = [] ∧ (atP (S.ps.set j { atP S.ps j with an := [] }) p).an = [] ∧ (atP (S.ps.set j { atP S.ps j with an := [] }) p).dn = [] := by
      intro p hp
      rw [hat]
      by_cases hpj : p = j
      · rw [if_pos hpj]
        exact ⟨w.up j hj, rfl, qd⟩
      · rw [if_neg hpj]
        have h1 := hwa' p
        rw [hw0', has_zero, decide_eq_false (by omega)] at h1
        have h2 : hasM e.wa p = false := by simpa using h1.symm
        rcases w.q p hp with ⟨_, q1, q2⟩ | ⟨q1, _⟩ | ⟨q1, _⟩
        · exact ⟨w.up p hp, q1, q2⟩
        · rw [h2] at q1; cases q1
        · rw [h2] at q1; cases q1
    have hlen : (S.ps.set j { atP S.ps j with an := [] }).length = c.co := by rw [List.length_set]; exact h.co
    unfold settledE
    rw [hbu, hby]
    rcases w.kd with kd | kd | kd
    · rw [if_pos kd]
      right
      refine ⟨_, PD.make hk h8 _ _ _ _ hlen hq (ms5 8 a.li _ _) _ ⟨show (8 : Int) ≠ 12 by decide, show (8 : Int) ≠ 13 by decide⟩ (fun h3 => by omega) hil w.oth rfl ⟨fun _ => ⟨.inr ?_, fun h1 => absurd h1 (w.k1 kd)⟩, fun h => by omega, fun h => by omega, fun h => by omega⟩ (fun h3 => by omega) w.es⟩
      show hasM ((overE (answeredE e (j : Int) a)).sh ||| bitM (k : Int)) (k : Int) = true
      rw [has_or, has_self (isC_cast (by omega)), Bool.or_true]
    · rw [if_neg (by omega), if_pos kd]
      right
      exact ⟨_, PD.make hk h8 _ _ _ _ hlen hq (ms5 10 a.li _ _) _ ⟨show (10 : Int) ≠ 12 by decide, show (10 : Int) ≠ 13 by decide⟩ (fun h3 => by omega) hil w.oth rfl ⟨fun h => by omega, fun _ => rfl, fun h => by omega, fun h => by omega⟩ (fun h3 => by omega) w.es⟩
    · rw [if_neg (by omega), if_neg (by omega)]
      exact .inl ⟨_, hstay.1, hwa', hstay.2⟩
end
end Go.Proofs.YtadeoflkppiflaaGreatDoor
end
section
namespace Go.Proofs.YtadeoflkppiflaaGreatDoor
open Go.RowKit
set_option linter.unusedVariables false
set_option maxHeartbeats 1000000

section
variable {c : Cg} {k i : Nat} {m : Ms} {en0 : List En} {e0 e : En} {sK : Sta} {Z : Prop} {S : Mst}
/-- Somebody has to be told. -/
theorem PW.make (h8 : c.co ≤ 8) (ps1 : List Pt) (en1 : List En) (es1 : List Ent) (xs1 : List Int) (hl : ps1.length = c.co) (hq : ∀ j, j < c.co → (atP ps1 j).up = [] ∧ (atP ps1 j).an = [] ∧ (atP ps1 j).dn = []) (a : Ms) (e' : En) (ha : a.li = (i : Int))
    (hi : i < en1.length) (ho : ∀ p, p ≠ i → en1[p]? = en0[p]?) (hlo : ∀ j : Nat, j < 8 → hasM e'.wa j = true → j < c.co) (hb : e'.bu = m.kd) (hkd : m.kd = 1 ∨ m.kd = 2 ∨ m.kd = 4 ∨ m.kd = 5) (hby : e'.by_ = (k : Int)) (hk1 : m.kd = 1 → e0.ow ≠ -1) (hf : m.kd = 4 ∨ m.kd = 5 → e'.he = true ∧ (e'.ow = -1 ∨ hasM e'.wa e'.ow = true)) (hes : Z → es1 = []) :
    PW c k i m en0 e0 Z e' ⟨sendP ps1 (tellL e'.wa a), en1.set i e', es1, xs1⟩ := by
  obtain ⟨h1, h2⟩ := sendP_tell e'.wa a ps1 (fun j hj hh => by rw [hl]; exact hlo j hj hh)
  refine ⟨fun j hj => ?_, fun j hj => ?_, ?_, fun p hp => ?_, hb, hkd, hby, hk1, hf, hes⟩
  · show (atP (sendP ps1 (tellL e'.wa a)) j).up = []
    rw [h2 j (by omega)]
    split
    · exact (hq j hj).1
    · exact (hq j hj).1
  · show (hasM e'.wa j = false ∧ (atP (sendP ps1 (tellL e'.wa a)) j).an = [] ∧ (atP (sendP ps1 (tellL e'.wa a)) j).dn = []) ∨ (hasM e'.wa j = true ∧ (atP (sendP ps1 (tellL e'.wa a)) j).an = [] ∧ ∃ a', (atP (sendP ps1 (tellL e'.wa a)) j).dn = [a'] ∧ a'.li = (i : Int)) ∨ _
    rw [h2 j (by omega)]
    obtain ⟨q1, q2, q3⟩ := hq j hj
    by_cases hm : hasM e'.wa (j : Int) = true
    · rw [if_pos hm]
      exact .inr (.inl ⟨hm, q2, a, by show (atP ps1 j).dn ++ [a] = _; rw [q3]; rfl, ha⟩)
    · rw [if_neg hm]
      exact .inl ⟨by simpa using hm, q2, q3⟩
  · show (en1.set i e')[i]? = _
    rw [List.getElem?_set]; simp [hi]
  · show (en1.set i e')[p]? = _
    rw [List.getElem?_set_ne (fun e => hp e.symm)]
    exact ho p hp
theorem hereP_parts (e : En) (l : List Int) (h : l.length = 8) : (hereP e l h).ow = e.ow ∧ (hereP e l h).di = e.di ∧ (e.he = true → hereP e l h = e) := by
  unfold hereP
  split
  · exact ⟨rfl, rfl, fun _ => rfl⟩
  · rename_i hh
    exact ⟨rfl, rfl, fun h1 => absurd h1 hh⟩
variable {n : Nat} {cur : Nat → List Int} (R : Req c k i m en0 e0 Z) (h : Inv c n S cur)
include R h
/-- The request reaches the directory. -/
theorem PA.up (w : PA c k i m en0 sK Z S) : (∃ e', PW c k i m en0 e0 Z e' (upM c S k).1) ∨ ∃ e', PD c k i m en0 e0 sK Z e' (upM c S k).1 := by
  have hk := R.hk
  have h8 := h.ok.co8
  have hC : isC (k : Int) = true := isC_cast (by omega)
  have hkl : k < S.ps.length := by rw [h.co]; exact hk
  have hil : i < S.en.length := by rw [h.li]; exact R.hi
  obtain ⟨q1, q2, q3⟩ := w.q k hk
  rw [if_pos rfl] at q1
  obtain ⟨m1, m2, m3⟩ := (h.pt k hk).fu m (by rw [q1]; simp)
  obtain ⟨i', e1, g1, g2, g3, g4⟩ := h.up hk (atP_mem hkl) q1
  have hii : i' = i := by have := R.hm; omega
  subst hii
  have he0 : S.en[i']? = some e0 := by rw [w.en]; exact R.he
  rw [he0] at g3
  injection g3 with g3
  subst g3
  have hb0 : e0.bu = 0 := R.hb e0 (List.mem_of_getElem? R.he)
  rcases g4 with ⟨g4, _⟩ | ⟨_, o, a, e', g5, g6, g7, g8⟩
  · exact absurd hb0 g4
  have hln := h.ln i' e0 he0
  have hG := lnG_eq (h.ln8 R.hi)
  obtain ⟨l1, l2, l3⟩ := LI.here (X := lnG S.X i') (by rw [hG]; exact hln) (lnG_len _ _)
  obtain ⟨p1, p2, p3⟩ := hereP_parts e0 (lnG S.X i') (lnG_len _ _)
  have hli : m.li.toNat = i' := by omega
  have hlo := (g8.ln i' e' (by show (S.en.set i' e')[i']? = _; rw [List.getElem?_set]; simp [hil])).lo.2.2.2
  have hS := upM_cons h.co hk q1 (e := e0) (by rw [hli]; exact he0) (r := (e', tellL o a)) (by rw [hli]; exact g5)
  rw [hli] at hS
  rw [hS]
  generalize hereP e0 (lnG S.X i') (lnG_len _ _) = E at g5 l1 l2 l3 p1 p2 p3
  have harg : askArg E k m = true := by simp [askArg, l1.good, hC, m1, m2]
  have hb' : E.bu = 0 := l3.trans hb0
  unfold askE at g5
  rw [if_pos harg, if_neg (by rw [hb']; decide), if_neg (by rw [l2]; decide)] at g5
  injection g5 with g5 _
  obtain ⟨f1, f2, f3, _⟩ := l1.free l2 hb'
  have hat : ∀ p, atP (S.ps.set k { atP S.ps k with up := [] }) p = if p = k then { atP S.ps k with up := [] } else atP S.ps p := fun p => atP_set hkl _ p
  have hq : ∀ j, j < c.co → (atP (S.ps.set k { atP S.ps k with up := [] }) j).up = [] ∧ (atP (S.ps.set k { atP S.ps k with up := [] }) j).an = [] ∧ (atP (S.ps.set k { atP S.ps k with up := [] }) j).dn = [] := by
    intro j hj
    rw [hat]
    by_cases hjk : j = k
    · rw [if_pos hjk]; exact ⟨rfl, q2, q3⟩
    · rw [if_neg hjk]
      obtain ⟨r1, r2, r3⟩ := w.q j hj
      rw [if_neg hjk] at r1
      exact ⟨r1, r2, r3⟩
  have hlen : (S.ps.set k { atP S.ps k with up := [] }).length = c.co := by rw [List.length_set]; exact h.co
  have hoth : ∀ p, p ≠ i' → S.en[p]? = en0[p]? := fun p _ => by rw [w.en]
  have hsk : (atP (S.ps.set k { atP S.ps k with up := [] }) k).s = sK := by rw [hat, if_pos rfl]; exact w.sk
  have hkk : m.kd = 1 ∨ m.kd = 2 ∨ m.kd = 3 ∨ m.kd = 4 ∨ m.kd = 5 := by simp [asksB] at m2; omega
  have hown : E.ow = -1 ∨ hasM (bitM E.ow) E.ow = true := by
    rcases f1 with h1 | ⟨h1, _⟩
    · exact .inl h1
    · exact .inr (has_self h1)
  have mw : ∀ (o' : Mk) (kt : Int), deedE E k m = waitE E k m o' kt → m.kd ≠ 3 → (m.kd = 1 → e0.ow ≠ -1) → (m.kd = 4 ∨ m.kd = 5 → E.ow = -1 ∨ hasM o' E.ow = true) → PW c k i' m en0 e0 Z e' ⟨sendP (S.ps.set k { atP S.ps k with up := [] }) (tellL o a), S.en.set i' e', S.es, S.xs⟩ := by
    intro o' kt hd h3 hk1 hf
    rw [hd] at g5
    have e1 : e' = (waitE E k m o' kt).1 := by rw [g5]
    have e2 : tellL o a = tellL o' (ms4 kt m.li false false) := by
      have : tellL o a = (waitE E k m o' kt).2 := by rw [g5]
      exact this
    have hwa : e'.wa = o' := by rw [e1]; rfl
    rw [e2, ← hwa]
    refine PW.make h8 _ _ _ _ hlen hq _ e' R.hm hil hoth hlo (by rw [e1]; rfl) (by omega) (by rw [e1]; rfl) hk1 (fun h45 => ?_) w.es
    rw [hwa, e1]
    exact ⟨l2, hf h45⟩
  have md : ∀ (a' : Ms) (x : En), deedE E k m = (x, tellL (bitM (k : Int)) a') → (a'.kd ≠ 12 ∧ a'.kd ≠ 13) → (m.kd = 3 → a'.kd = 11 ∧ a'.li = (i' : Int)) → x.bu = 0 → Fin9 k m e0 x → PD c k i' m en0 e0 sK Z e' ⟨sendP (S.ps.set k { atP S.ps k with up := [] }) (tellL o a), S.en.set i' e', S.es, S.xs⟩ := by
    intro a' x hd ha ha3 hxb hf
    rw [hd] at g5
    injection g5 with e1 e2
    rw [← e2, ← e1]
    exact PD.make hk h8 _ _ _ _ hlen hq a' x ha ha3 hil hoth hxb hf (fun _ => hsk) w.es
  rcases hkk with kd | kd | kd | kd | kd
  · have hd : deedE E k m = getSE E k m := by simp [deedE, kd]
    unfold getSE at hd
    by_cases hc : E.ow ≠ -1 ∧ E.ow ≠ (k : Int)
    · rw [if_pos hc] at hd
      exact .inl ⟨_, mw _ _ hd (by omega) (fun _ => by rw [← p1]; exact hc.1) (fun h => by omega)⟩
    · rw [if_neg hc] at hd
      by_cases hs : E.sh = 0#8
      · rw [if_pos hs] at hd
        exact .inr ⟨_, md (ms5 9 m.li E.l E.h) _ hd ⟨show (9 : Int) ≠ 12 by decide, show (9 : Int) ≠ 13 by decide⟩ (fun h => by omega) hb' ⟨fun _ => ⟨.inl rfl, fun _ => p2⟩, fun h => by omega, fun h => by omega, fun h => by omega⟩⟩
      · rw [if_neg hs] at hd
        refine .inr ⟨_, md (ms5 8 m.li E.l E.h) _ hd ⟨show (8 : Int) ≠ 12 by decide, show (8 : Int) ≠ 13 by decide⟩ (fun h => by omega) hb' ⟨fun _ => ⟨.inr ?_, fun _ => p2⟩, fun h => by omega, fun h => by omega, fun h => by omega⟩⟩
        show hasM (E.sh ||| bitM (k : Int)) (k : Int) = true
        rw [has_or, has_self hC, Bool.or_true]
  · have hd : deedE E k m = getME E k m := by simp [deedE, kd]
    unfold getME at hd
    by_cases hc : (holders E &&& ~~~(bitM (k : Int))) = 0#8
    · rw [if_pos hc] at hd
      exact .inr ⟨_, md (ms5 10 m.li E.l E.h) _ hd ⟨show (10 : Int) ≠ 12 by decide, show (10 : Int) ≠ 13 by decide⟩ (fun h => by omega) hb' ⟨fun h => by omega, fun _ => rfl, fun h => by omega, fun h => by omega⟩⟩
    · rw [if_neg hc] at hd
      exact .inl ⟨_, mw _ _ hd (by omega) (fun h => by omega) (fun h => by omega)⟩
  · have hd : deedE E k m = putE E k m := by simp [deedE, kd]
    refine .inr ⟨_, md (ms4 11 m.li false false) (putE E k m).1 hd ⟨show (11 : Int) ≠ 12 by decide, show (11 : Int) ≠ 13 by decide⟩ (fun _ => ⟨rfl, R.hm⟩) ?_ ⟨fun h => by omega, fun h => by omega, fun _ hh => by rw [p3 hh], fun h => by omega⟩⟩
    unfold putE withoutE writtenE
    dsimp only
    repeat' split
    all_goals exact hb'
  · have hd : deedE E k m = cleanE E k m := by simp [deedE, kd]
    exact .inl ⟨_, mw _ _ hd (by omega) (fun h => by omega) (fun _ => hown)⟩
  · have hd : deedE E k m = wipeE E k m := by simp [deedE, kd]
    refine .inl ⟨_, mw _ _ hd (by omega) (fun h => by omega) (fun _ => ?_)⟩
    rcases hown with h1 | h1
    · exact .inl h1
    · right
      unfold holders
      rw [has_or, h1, Bool.or_true]
/-- All have answered: it goes to the memory. -/
theorem PW.push (w : PW c k i m en0 e0 Z e S) (hw : e.wa = 0#8) : Short c (pushM c S i).1 ∧ ∃ e', PD c k i m en0 e0 sK Z e' (drainM c (pushM c S i).1 i).1 := by
  have hk := R.hk
  have h8 := h.ok.co8
  have hC : isC (k : Int) = true := isC_cast (by omega)
  have hil : i < S.en.length := by rw [h.li]; exact R.hi
  have good := (h.ln i e w.at').good
  have hkd : m.kd = 4 ∨ m.kd = 5 := by
    by_cases h45 : m.kd = 4 ∨ m.kd = 5
    · exact h45
    · exfalso
      have h12 : e.bu = 1 ∨ e.bu = 2 := by rw [w.bu]; have := w.kd; omega
      have hh : e.he = true := by
        cases hh : e.he
        · unfold goodE at good
          rw [if_neg (by simp [hh])] at good
          have : e = enE := by simpa using good
          rw [this] at h12
          rcases h12 with h1 | h1 <;> exact absurd h1 (by decide)
        · rfl
      rcases ((good_here hh).1 good).2 with ⟨h1, _⟩ | ⟨_, _, h1⟩ | ⟨h1, _⟩
      · omega
      · exact h1 hw
      · omega
  obtain ⟨hh, how⟩ := w.fl hkd
  have how' : e.ow = -1 := by
    rcases how with h1 | h1
    · exact h1
    · rw [hw, has_zero] at h1; cases h1
  have hes := w.es (R.hz hkd)
  have hr : readyE e = true := by
    unfold readyE
    rw [good, hw, w.bu]
    rcases hkd with h1 | h1 <;> rw [h1] <;> rfl
  have hv : saveV c S.es i e = 0 := by
    unfold saveV wpushVal
    rw [hes]
    split
    · rw [if_pos (by have := R.hi; omega), if_neg (by have := h.ok.qu1; simp; omega)]
    · rfl
  have hS : (pushM c S i).1 = ⟨sendP S.ps (tellL (bitM (k : Int)) (ms4 14 i false false)), S.en.set i ((overE e).setDi false), saveEs c S.es i e, S.xs⟩ := by
    unfold pushM
    rw [if_pos (inB_iff.2 ⟨by omega, by have := R.hi; omega⟩), Int.toNat_natCast, w.at']
    dsimp only
    rw [if_pos hr, if_pos hv, w.by']
  have hq : ∀ j, j < c.co → (atP S.ps j).up = [] ∧ (atP S.ps j).an = [] ∧ (atP S.ps j).dn = [] := by
    intro j hj
    rcases w.q j hj with ⟨_, q1, q2⟩ | ⟨q1, _⟩ | ⟨q1, _⟩
    · exact ⟨w.up j hj, q1, q2⟩
    · rw [hw, has_zero] at q1; cases q1
    · rw [hw, has_zero] at q1; cases q1
  have hpd : ∀ es1 xs1, (Z → es1 = []) → PD c k i m en0 e0 sK Z ((overE e).setDi false) ⟨sendP S.ps (tellL (bitM (k : Int)) (ms4 14 i false false)), S.en.set i ((overE e).setDi false), es1, xs1⟩ := by
    intro es1 xs1 hz
    refine PD.make hk h8 _ _ _ _ h.co hq (ms4 14 i false false) _ ⟨show (14 : Int) ≠ 12 by decide, show (14 : Int) ≠ 13 by decide⟩ (fun h3 => by omega) hil w.oth rfl ⟨fun h => by omega, fun h => by omega, fun h => by omega, fun _ => ⟨hh, how', rfl⟩⟩ (fun h => by omega) hz
  rw [hS]
  refine ⟨?_, ?_⟩
  · have h1 : Short c ⟨sendP S.ps (tellL (bitM (k : Int)) (ms4 14 i false false)), S.en.set i ((overE e).setDi false), [], S.xs⟩ := (hpd [] S.xs (fun _ => rfl)).short
    exact h1
  · rw [drainM_eq R.hi]
    refine ⟨_, hpd _ _ (fun _ => ?_)⟩
    show drainEs (saveEs c S.es i e) i = []
    unfold saveEs pushEs
    rw [hes]
    split
    · rw [if_pos (by have := R.hi; omega), if_neg (by have := h.ok.qu1; simp; omega), Int.toNat_natCast]
      simp [drainEs, firstAt]
    · rfl
end
end Go.Proofs.YtadeoflkppiflaaGreatDoor
end
section
namespace Go.Proofs.YtadeoflkppiflaaGreatDoor
open Go.RowKit
set_option linter.unusedVariables false
set_option maxHeartbeats 1000000

section
variable (c : Cg) (k i : Nat) (m : Ms) (en0 : List En) (e0 : En) (sK : Sta) (Z : Prop)
def Qu9 (S : Mst) : Prop := ∃ e, PQ c k i m en0 e0 sK Z e S
def Re9 (S : Mst) : Prop := (∃ e, PD c k i m en0 e0 sK Z e S) ∨ Qu9 c k i m en0 e0 sK Z S
def Wt9 (S : Mst) : Prop := (∃ e, PW c k i m en0 e0 Z e S) ∨ Re9 c k i m en0 e0 sK Z S
def Dn9 (S : Mst) : Prop := (∃ e, PW c k i m en0 e0 Z e S ∧ ∀ p, p < c.co → (atP S.ps p).dn = []) ∨ Re9 c k i m en0 e0 sK Z S
/-- How far it is, in rounds; and so many cores, or lines, of the round are done. -/
def Cr9 (r J : Nat) (S : Mst) : Prop := match r with
  | 0 => Qu9 c k i m en0 e0 sK Z S
  | 1 => ((∃ e, PD c k i m en0 e0 sK Z e S) ∧ J ≤ k) ∨ Qu9 c k i m en0 e0 sK Z S
  | 2 => (∃ e, PW c k i m en0 e0 Z e S ∧ (∀ p, p < c.co → (atP S.ps p).dn = []) ∧ ∀ p : Nat, p < J → hasM e.wa p = false) ∨ Re9 c k i m en0 e0 sK Z S
  | 3 => (∃ e, PW c k i m en0 e0 Z e S ∧ ∀ p, p < J → p < c.co → (atP S.ps p).dn = []) ∨ Re9 c k i m en0 e0 sK Z S
  | _ => (PA c k i m en0 sK Z S ∧ J ≤ k) ∨ Wt9 c k i m en0 e0 sK Z S
def Lr9 (r L : Nat) (S : Mst) : Prop := match r with
  | 0 => Qu9 c k i m en0 e0 sK Z S
  | 1 => Qu9 c k i m en0 e0 sK Z S
  | 2 => (∃ e, PW c k i m en0 e0 Z e S ∧ e.wa = 0#8 ∧ L ≤ i) ∨ Re9 c k i m en0 e0 sK Z S
  | 3 => Dn9 c k i m en0 e0 sK Z S
  | _ => Wt9 c k i m en0 e0 sK Z S
end
section
variable {c : Cg} {k i : Nat} {m : Ms} {en0 : List En} {e0 e : En} {sK : Sta} {Z : Prop} {S : Mst}
theorem Re9.short (h : Re9 c k i m en0 e0 sK Z S) : Short c S := by
  rcases h with ⟨e, h⟩ | ⟨e, h⟩
  · exact h.short
  · exact h.q.short
theorem Wt9.short (h : Wt9 c k i m en0 e0 sK Z S) : Short c S := by
  rcases h with ⟨e, h⟩ | h
  · exact h.short
  · exact h.short
theorem Cr9.short {r J : Nat} (h : Cr9 c k i m en0 e0 sK Z r J S) : Short c S := by
  match r, h with
  | 0, ⟨e, h⟩ => exact h.q.short
  | 1, .inl ⟨⟨e, h⟩, _⟩ => exact h.short
  | 1, .inr ⟨e, h⟩ => exact h.q.short
  | 2, .inl ⟨e, h, _⟩ => exact h.short
  | 2, .inr h => exact h.short
  | 3, .inl ⟨e, h, _⟩ => exact h.short
  | 3, .inr h => exact h.short
  | n + 4, .inl ⟨h, _⟩ => exact h.short
  | n + 4, .inr h => exact h.short
theorem Lr9.short {r L : Nat} (h : Lr9 c k i m en0 e0 sK Z r L S) : Short c S := by
  match r, h with
  | 0, ⟨e, h⟩ => exact h.q.short
  | 1, ⟨e, h⟩ => exact h.q.short
  | 2, .inl ⟨e, h, _⟩ => exact h.short
  | 2, .inr h => exact h.short
  | 3, .inl ⟨e, h, _⟩ => exact h.short
  | 3, .inr h => exact h.short
  | n + 4, h => exact Wt9.short h
variable {n : Nat} {cur : Nat → List Int} (R : Req c k i m en0 e0 Z)
/-- A core's turn, of one that is being told, or is done. -/
theorem Re9.turn (R : Req c k i m en0 e0 Z) (h : Inv c n S cur) {j : Nat} (hj : j < c.co) (w : Re9 c k i m en0 e0 sK Z S) :
    (upM c S j).1 = S ∧ (answerM c S j).1 = S ∧ Re9 c k i m en0 e0 sK Z (hearM c S j).1 := by
  rcases w with ⟨e, w⟩ | ⟨e, w⟩
  · obtain ⟨a, ha, ha3, hq⟩ := w.ex
    obtain ⟨q1, q2, q3⟩ := hq j hj
    refine ⟨upM_nil h.co hj q1, answerM_nil h.co hj q2, ?_⟩
    by_cases hjk : j = k
    · subst hjk
      exact .inr ⟨e, w.hear R h⟩
    · rw [if_neg hjk] at q3
      rw [hearM_nil h.co hj q3]
      exact .inl ⟨e, w⟩
  · obtain ⟨q1, q2, q3⟩ := w.q.q j hj
    rw [upM_nil h.co hj q1, answerM_nil h.co hj q2, hearM_nil h.co hj q3]
    exact ⟨rfl, rfl, .inr ⟨e, w⟩⟩
theorem Qu9.turn (h : Inv c n S cur) {j : Nat} (hj : j < c.co) (w : Qu9 c k i m en0 e0 sK Z S) :
    (upM c S j).1 = S ∧ (answerM c S j).1 = S ∧ (hearM c S j).1 = S := by
  obtain ⟨e, w⟩ := w
  obtain ⟨q1, q2, q3⟩ := w.q.q j hj
  exact ⟨upM_nil h.co hj q1, answerM_nil h.co hj q2, hearM_nil h.co hj q3⟩
/-- A core's turn, while somebody has to answer. -/
theorem PW.turn (R : Req c k i m en0 e0 Z) (h : Inv c n S cur) {j : Nat} (hj : j < c.co) (w : PW c k i m en0 e0 Z e S) :
    Short c (answerM c S j).1 ∧ ((∃ e', PW c k i m en0 e0 Z e' (hearM c (answerM c S j).1 j).1 ∧ (∀ p, p < c.co → (atP S.ps p).dn = [] → (atP (hearM c (answerM c S j).1 j).1.ps p).dn = []) ∧ (atP (hearM c (answerM c S j).1 j).1.ps j).dn = [] ∧ (∀ p : Int, hasM e.wa p = false → hasM e'.wa p = false) ∧ ((atP S.ps j).dn = [] → hasM e'.wa j = false)) ∨ Re9 c k i m en0 e0 sK Z (hearM c (answerM c S j).1 j).1) := by
  rcases w.q j hj with ⟨q0, q1, q2⟩ | ⟨q0, q1, a, q2, _⟩ | ⟨q0, q1, a, q2, _⟩
  · rw [answerM_nil h.co hj q1, hearM_nil h.co hj q2]
    exact ⟨w.short, .inl ⟨e, w, fun p _ h => h, q2, fun p h => h, fun _ => q0⟩⟩
  · rw [answerM_nil h.co hj q1]
    obtain ⟨w2, hd⟩ := w.hear R h hj q2
    refine ⟨w.short, .inl ⟨e, w2, fun p hp h => ?_, ?_, fun p h => h, fun h => ?_⟩⟩
    · rw [hd p hp]
      split
      · rfl
      · exact h
    · rw [hd j hj, if_pos rfl]
    · rw [q2] at h; cases h
  · rcases w.answer (sK := sK) R h hj q2 with ⟨e', w2, hw, hd⟩ | ⟨e', w2⟩
    · have h2 := (h.answerM j).1
      have q3 : (atP (answerM c S j).1.ps j).dn = [] := by rw [hd j hj]; exact q1
      rw [hearM_nil h2.co hj q3]
      refine ⟨w2.short, .inl ⟨e', w2, fun p hp h => by rw [hd p hp]; exact h, q3, fun p h => ?_, fun _ => ?_⟩⟩
      · rw [hw, h]; rfl
      · rw [hw]; simp
    · have h2 := (h.answerM j).1
      refine ⟨w2.short, .inr ?_⟩
      exact (Re9.turn R h2 hj (.inl ⟨e', w2⟩)).2.2
/-- A core's turn. -/
theorem Cr9.turn (R : Req c k i m en0 e0 Z) (h : Inv c n S cur) {r J : Nat} (hJ : J < c.co) (w : Cr9 c k i m en0 e0 sK Z r J S) :
    Short c (upM c S J).1 ∧ Short c (answerM c (upM c S J).1 J).1 ∧ Cr9 c k i m en0 e0 sK Z r (J + 1) (hearM c (answerM c (upM c S J).1 J).1 J).1 := by
  have hre : ∀ w : Re9 c k i m en0 e0 sK Z S, Short c (upM c S J).1 ∧ Short c (answerM c (upM c S J).1 J).1 ∧ Re9 c k i m en0 e0 sK Z (hearM c (answerM c (upM c S J).1 J).1 J).1 := by
    intro w
    obtain ⟨t1, t2, t3⟩ := w.turn R h hJ
    rw [t1, t2]
    exact ⟨w.short, w.short, t3⟩
  have hqu : ∀ w : Qu9 c k i m en0 e0 sK Z S, Short c (upM c S J).1 ∧ Short c (answerM c (upM c S J).1 J).1 ∧ Qu9 c k i m en0 e0 sK Z (hearM c (answerM c (upM c S J).1 J).1 J).1 := by
    intro w
    obtain ⟨t1, t2, t3⟩ := w.turn h hJ
    rw [t1, t2, t3]
    exact ⟨Re9.short (.inr w), Re9.short (.inr w), w⟩
  have hwu : ∀ e, PW c k i m en0 e0 Z e S → (upM c S J).1 = S := fun e w => upM_nil h.co hJ (w.up J hJ)
  match r, w with
  | 0, w => exact hqu w
  | 1, .inl ⟨⟨e, w⟩, hk⟩ =>
    obtain ⟨t1, t2, t3⟩ := Re9.turn R h hJ (.inl ⟨e, w⟩)
    rw [t1, t2]
    refine ⟨w.short, w.short, ?_⟩
    by_cases hjk : J = k
    · subst hjk
      exact .inr ⟨e, w.hear R h⟩
    · obtain ⟨a, ha, ha3, hq⟩ := w.ex
      have q3 := (hq J hJ).2.2
      rw [if_neg hjk] at q3
      rw [hearM_nil h.co hJ q3]
      exact .inl ⟨⟨e, w⟩, by omega⟩
  | 1, .inr w =>
    obtain ⟨a, b, d⟩ := hqu w
    exact ⟨a, b, .inr d⟩
  | 2, .inl ⟨e, w, hd, hw⟩ =>
    rw [hwu e w]
    obtain ⟨t1, t2⟩ := w.turn (sK := sK) R h hJ
    refine ⟨w.short, t1, ?_⟩
    rcases t2 with ⟨e', w2, d1, d2, d3, d4⟩ | w2
    · refine .inl ⟨e', w2, fun p hp => d1 p hp (hd p hp), fun p hp => ?_⟩
      by_cases hpJ : p = J
      · subst hpJ
        exact d4 (hd p hJ)
      · exact d3 _ (hw p (by omega))
    · exact .inr w2
  | 2, .inr w =>
    obtain ⟨a, b, d⟩ := hre w
    exact ⟨a, b, .inr d⟩
  | 3, .inl ⟨e, w, hd⟩ =>
    rw [hwu e w]
    obtain ⟨t1, t2⟩ := w.turn (sK := sK) R h hJ
    refine ⟨w.short, t1, ?_⟩
    rcases t2 with ⟨e', w2, d1, d2, d3, d4⟩ | w2
    · refine .inl ⟨e', w2, fun p hp hpc => ?_⟩
      by_cases hpJ : p = J
      · subst hpJ
        exact d2
      · exact d1 p hpc (hd p (by omega) hpc)
    · exact .inr w2
  | 3, .inr w =>
    obtain ⟨a, b, d⟩ := hre w
    exact ⟨a, b, .inr d⟩
  | n + 4, .inl ⟨w, hk⟩ =>
    by_cases hjk : J = k
    · subst hjk
      have h2 := (h.upM J).1
      rcases w.up (sK := sK) R h with ⟨e, w2⟩ | ⟨e, w2⟩
      · obtain ⟨t1, t2⟩ := w2.turn (sK := sK) R h2 hJ
        refine ⟨w2.short, t1, .inr ?_⟩
        rcases t2 with ⟨e', w3, _⟩ | w3
        · exact .inl ⟨e', w3⟩
        · exact .inr w3
      · obtain ⟨t1, t2, t3⟩ := Re9.turn R h2 hJ (.inl ⟨e, w2⟩)
        rw [t2]
        exact ⟨w2.short, w2.short, .inr (.inr t3)⟩
    · obtain ⟨q1, q2, q3⟩ := w.q J hJ
      rw [if_neg hjk] at q1
      rw [upM_nil h.co hJ q1, answerM_nil h.co hJ q2, hearM_nil h.co hJ q3]
      exact ⟨w.short, w.short, .inl ⟨w, by omega⟩⟩
  | n + 4, .inr (.inl ⟨e, w⟩) =>
    rw [hwu e w]
    obtain ⟨t1, t2⟩ := w.turn (sK := sK) R h hJ
    refine ⟨w.short, t1, .inr ?_⟩
    rcases t2 with ⟨e', w2, _⟩ | w2
    · exact .inl ⟨e', w2⟩
    · exact .inr w2
  | n + 4, .inr (.inr w) =>
    obtain ⟨a, b, d⟩ := hre w
    exact ⟨a, b, .inr (.inr d)⟩
theorem Cr9.done (h : Inv c n S cur) (hk : k < c.co) {r : Nat} (w : Cr9 c k i m en0 e0 sK Z r c.co S) : Lr9 c k i m en0 e0 sK Z r 0 S := by
  match r, w with
  | 0, w => exact w
  | 1, .inl ⟨_, h1⟩ => exact absurd h1 (by omega)
  | 1, .inr w => exact w
  | 2, .inl ⟨e, w, _, hw⟩ =>
    refine .inl ⟨e, w, ?_, Nat.zero_le _⟩
    have h1 : (e.wa == 0#8) = true := by
      rw [zero_iff]
      intro p hp
      by_cases hpc : p < c.co
      · exact hw p hpc
      · cases h2 : hasM e.wa (p : Int)
        · rfl
        · exact absurd ((h.ln i e w.at').lo.2.2.2 p hp h2) hpc
    simpa using h1
  | 2, .inr w => exact .inr w
  | 3, .inl ⟨e, w, hd⟩ => exact .inl ⟨e, w, fun p hp => hd p hp hp⟩
  | 3, .inr w => exact .inr w
  | n + 4, .inl ⟨_, h1⟩ => exact absurd h1 (by omega)
  | n + 4, .inr w => exact w
/-- A line's turn, of one that is being told, or is done. -/
theorem Re9.line (R : Req c k i m en0 e0 Z) (h : Inv c n S cur) {l : Nat} (hl : l < c.li) (w : Re9 c k i m en0 e0 sK Z S) :
    (pushM c S l).1 = S ∧ Re9 c k i m en0 e0 sK Z (drainM c S l).1 := by
  obtain ⟨x, hx, _⟩ := h.entry hl
  have hm := List.mem_of_getElem? hx
  rw [drainM_eq hl]
  rcases w with ⟨e, w⟩ | ⟨e, w⟩
  · exact ⟨pushM_off hx (readyE_0 (by have := w.other R x hm; omega)), .inl ⟨e, w.drained l⟩⟩
  · exact ⟨pushM_off hx (readyE_0 (by have := w.q.bu x hm; omega)), .inr ⟨e, w.drained l⟩⟩
theorem Qu9.line (h : Inv c n S cur) {l : Nat} (hl : l < c.li) (w : Qu9 c k i m en0 e0 sK Z S) :
    (pushM c S l).1 = S ∧ Qu9 c k i m en0 e0 sK Z (drainM c S l).1 := by
  obtain ⟨x, hx, _⟩ := h.entry hl
  have hm := List.mem_of_getElem? hx
  rw [drainM_eq hl]
  obtain ⟨e, w⟩ := w
  exact ⟨pushM_off hx (readyE_0 (by have := w.q.bu x hm; omega)), ⟨e, w.drained l⟩⟩
/-- A line's turn, while somebody has to answer. -/
theorem PW.line (R : Req c k i m en0 e0 Z) (h : Inv c n S cur) {l : Nat} (hl : l < c.li) (w : PW c k i m en0 e0 Z e S) :
    Short c (pushM c S l).1 ∧ ((PW c k i m en0 e0 Z e (drainM c (pushM c S l).1 l).1 ∧ (drainM c (pushM c S l).1 l).1.ps = S.ps ∧ (l = i → e.wa ≠ 0#8)) ∨ Re9 c k i m en0 e0 sK Z (drainM c (pushM c S l).1 l).1) := by
  by_cases hli : l = i
  · subst hli
    by_cases hw : e.wa = 0#8
    · obtain ⟨a, e', b⟩ := w.push (sK := sK) R h hw
      exact ⟨a, .inr (.inl ⟨e', b⟩)⟩
    · rw [pushM_off w.at' (by unfold readyE; simp [hw]), drainM_eq hl]
      exact ⟨w.short, .inl ⟨w.drained l, rfl, fun _ => hw⟩⟩
  · obtain ⟨x, hx, _⟩ := h.entry hl
    have hx' := hx
    rw [w.oth l hli] at hx'
    have hb := R.hb x (List.mem_of_getElem? hx')
    rw [pushM_off hx (readyE_0 (by omega)), drainM_eq hl]
    exact ⟨w.short, .inl ⟨w.drained l, rfl, fun h => absurd h hli⟩⟩
/-- A line's turn. -/
theorem Lr9.turn (R : Req c k i m en0 e0 Z) (h : Inv c n S cur) {r L : Nat} (hL : L < c.li) (w : Lr9 c k i m en0 e0 sK Z r L S) :
    Short c (pushM c S L).1 ∧ Lr9 c k i m en0 e0 sK Z r (L + 1) (drainM c (pushM c S L).1 L).1 := by
  have hre : ∀ w : Re9 c k i m en0 e0 sK Z S, Short c (pushM c S L).1 ∧ Re9 c k i m en0 e0 sK Z (drainM c (pushM c S L).1 L).1 := by
    intro w
    obtain ⟨t1, t2⟩ := w.line R h hL
    rw [t1]
    exact ⟨w.short, t2⟩
  have hqu : ∀ w : Qu9 c k i m en0 e0 sK Z S, Short c (pushM c S L).1 ∧ Qu9 c k i m en0 e0 sK Z (drainM c (pushM c S L).1 L).1 := by
    intro w
    obtain ⟨t1, t2⟩ := w.line h hL
    rw [t1]
    exact ⟨Re9.short (.inr w), t2⟩
  match r, w with
  | 0, w => exact hqu w
  | 1, w => exact hqu w
  | 2, .inl ⟨e, w, hw, hLi⟩ =>
    obtain ⟨a, b⟩ := w.line (sK := sK) R h hL
    refine ⟨a, ?_⟩
    rcases b with ⟨b1, _, b3⟩ | b
    · refine .inl ⟨e, b1, hw, ?_⟩
      by_cases hLe : L = i
      · exact absurd hw (b3 hLe)
      · omega
    · exact .inr b
  | 2, .inr w =>
    obtain ⟨a, b⟩ := hre w
    exact ⟨a, .inr b⟩
  | 3, .inl ⟨e, w, hd⟩ =>
    obtain ⟨a, b⟩ := w.line (sK := sK) R h hL
    refine ⟨a, ?_⟩
    rcases b with ⟨b1, b2, _⟩ | b
    · exact .inl ⟨e, b1, fun p hp => by rw [b2]; exact hd p hp⟩
    · exact .inr b
  | 3, .inr w =>
    obtain ⟨a, b⟩ := hre w
    exact ⟨a, .inr b⟩
  | n + 4, .inl ⟨e, w⟩ =>
    obtain ⟨a, b⟩ := w.line (sK := sK) R h hL
    refine ⟨a, ?_⟩
    rcases b with ⟨b1, _⟩ | b
    · exact .inl ⟨e, b1⟩
    · exact .inr b
  | n + 4, .inr w =>
    obtain ⟨a, b⟩ := hre w
    exact ⟨a, .inr b⟩
theorem Lr9.done (hi : i < c.li) {t : Nat} (w : Lr9 c k i m en0 e0 sK Z (4 - t) c.li S) : Cr9 c k i m en0 e0 sK Z (4 - (t + 1)) 0 S := by
  match t, w with
  | 0, .inl ⟨e, w⟩ => exact .inl ⟨e, w, fun p hp => absurd hp (Nat.not_lt_zero p)⟩
  | 0, .inr w => exact .inr w
  | 1, .inl ⟨e, w, hd⟩ => exact .inl ⟨e, w, hd, fun p hp => absurd hp (Nat.not_lt_zero p)⟩
  | 1, .inr w => exact .inr w
  | 2, .inl ⟨e, w, _, hli⟩ => exact absurd hli (by omega)
  | 2, .inr (.inl w) => exact .inl ⟨w, Nat.zero_le _⟩
  | 2, .inr (.inr w) => exact .inr w
  | 3, w => exact w
  | t + 4, w =>
    rw [show 4 - (t + 4) = 0 by omega] at w
    rw [show 4 - (t + 4 + 1) = 0 by omega]
    exact w
end

/-! ### Rounds, whatever is on its way -/
/-- What holds ahead of each core's turn, of each line's. -/
structure Fam (c : Cg) (cur : Nat → List Int) (C L : Nat → Nat → Mst → Prop) : Prop where
  sc : ∀ t J S, C t J S → Short c S
  sl : ∀ t J S, L t J S → Short c S
  tc : ∀ t J S n, J < c.co → Inv c n S cur → C t J S → Short c (upM c S J).1 ∧ Short c (answerM c (upM c S J).1 J).1 ∧ C t (J + 1) (hearM c (answerM c (upM c S J).1 J).1 J).1
  dc : ∀ t S n, Inv c n S cur → C t c.co S → L t 0 S
  tl : ∀ t J S n, J < c.li → Inv c n S cur → L t J S → Short c (pushM c S J).1 ∧ L t (J + 1) (drainM c (pushM c S J).1 J).1
  dl : ∀ t S, L t c.li S → C (t + 1) 0 S
theorem Fam.req {c : Cg} {k i : Nat} {m : Ms} {en0 : List En} {e0 : En} {sK : Sta} {Z : Prop} (R : Req c k i m en0 e0 Z) (cur : Nat → List Int) :
    Fam c cur (fun t => Cr9 c k i m en0 e0 sK Z (4 - t)) (fun t => Lr9 c k i m en0 e0 sK Z (4 - t)) :=
  ⟨fun t J S h => Cr9.short h, fun t J S h => Lr9.short h, fun t J S n hJ h w => Cr9.turn R h hJ w, fun t S n h w => Cr9.done h R.hk w, fun t J S n hJ h w => Lr9.turn R h hJ w, fun t S w => Lr9.done R.hi w⟩
/-- Nothing is on its way, and nothing is waited for. -/
def Rest9 (c : Cg) (ps : List Pt) (en : List En) (Z : Prop) (S : Mst) : Prop := Quiet c S ∧ S.ps = ps ∧ S.en = en ∧ (Z → S.es = [])
theorem Fam.rest (c : Cg) (cur : Nat → List Int) (ps : List Pt) (en : List En) (Z : Prop) : Fam c cur (fun _ _ => Rest9 c ps en Z) (fun _ _ => Rest9 c ps en Z) := by
  refine ⟨fun t J S h => h.1.short, fun t J S h => h.1.short, fun t J S n hJ h w => ?_, fun t S n h w => w, fun t J S n hJ h w => ?_, fun t S w => w⟩
  · obtain ⟨q1, q2, q3⟩ := w.1.q J hJ
    rw [upM_nil h.co hJ q1, answerM_nil h.co hJ q2, hearM_nil h.co hJ q3]
    exact ⟨w.1.short, w.1.short, w⟩
  · obtain ⟨x, hx, _⟩ := h.entry hJ
    have hb := w.1.bu x (List.mem_of_getElem? hx)
    rw [pushM_off hx (readyE_0 (by omega)), drainM_eq hJ]
    exact ⟨w.1.short, ⟨w.1.q, w.1.bu⟩, w.2.1, w.2.2.1, fun z => by show drainEs S.es J = []; rw [w.2.2.2 z]; rfl⟩
end Go.Proofs.YtadeoflkppiflaaGreatDoor
end
