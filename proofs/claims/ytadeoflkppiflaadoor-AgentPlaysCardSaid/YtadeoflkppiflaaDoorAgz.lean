/- A statement of layer 8, with the tables of what a kind of messages may have, and of what messages make of slots, tied to the program's text: for every argument. No condition. -/
import Derived.Test.YtadeoflkppiflaaDoorCards
import Derived.Test.YtadeoflkppiflaaDoorTie
import Derived.Test.YtadeoflkppiflaaDoorLaid
import Derived.Test.YtadeoflkppiflaaDoorArgs
import Derived.Test.YtadeoflkppiflaaDoorAgn
import Derived.LaidMore
import Derived.SevenTiedAt
namespace Go.Proofs.YtadeoflkppiflaaDoor
open Go.ChangeShapes Go.WideShapes Go.ChangeAt Go.RowKit
set_option linter.unusedVariables false

theorem own : ownKnob Tryd.prog.godebug = none := by kernel_rfl
theorem laidOut : laidOutB Tryd.prog = true := by kernel_rfl

/-- What a list of two variables gives: their blocks. -/
theorem block_of_laid2 {P : Program} {W : World} {name name' : String} {d d' : DataW Unit} {g g' : Nat} {t t' : TypeId} {n n' : Nat}
    (hg : P.globalNamed name = some g) (hty : (P.globals[g]?).map (·.type) = some t) (hp : plainTy P n t = true)
    (hg' : P.globalNamed name' = some g') (hty' : (P.globals[g']?).map (·.type) = some t') (hp' : plainTy P n' t' = true)
    (hpl : ([(name, d), (name', d')].all fun x => x.2.handleName?.isNone) = true) (h : laidMetH P [(name, d), (name', d')] W) :
    (∃ ty f, W.heap[g]? = some (.cells (flat d).toArray ty f)) ∧ ∃ ty f, W.heap[g']? = some (.cells (flat d').toArray ty f) := by
  rw [MakeChecks.laidMetH_plain _ _ _ hpl] at h
  obtain ⟨ps, ⟨g1, t1, cs, fuel, p, q, hg1, ht1, hvar, hd, ⟨g2, t2, cs2, fuel2, p2, q2, hg2, ht2, hvar2, hd2, _, _⟩, _⟩, _⟩ := h
  obtain rfl := Option.some.inj (hg.symm.trans hg1)
  obtain rfl := Option.some.inj (hty.symm.trans ht1)
  obtain rfl := Option.some.inj (hg'.symm.trans hg2)
  obtain rfl := Option.some.inj (hty'.symm.trans ht2)
  have e := trod_flat n t hp _ _ _ hd
  have e2 := trod_flat n' t' hp' _ _ _ hd2
  refine ⟨?_, ?_⟩
  · unfold World.var? at hvar
    rw [hg] at hvar
    simp only [Option.bind_some] at hvar
    split at hvar
    · rename_i c ty f hh
      injection hvar with hvar
      subst hvar
      refine ⟨ty, f, ?_⟩
      rw [hh, ← show c.toList = flat d from e]
    · cases hvar
  · unfold World.var? at hvar2
    rw [hg'] at hvar2
    simp only [Option.bind_some] at hvar2
    split at hvar2
    · rename_i c ty f hh
      injection hvar2 with hvar2
      subst hvar2
      refine ⟨ty, f, ?_⟩
      rw [hh, ← show c.toList = flat d' from e2]
    · cases hvar2
def laidM : List (String × DataW Unit) := [("bellows/msg.mayHave", Rows.laid_bellows_msg_mayHave), ("bellows/agent.becomes", Rows.laid_bellows_agent_becomes)]
theorem gMay : Tryd.prog.globalNamed "bellows/msg.mayHave" = some 1 := by kernel_rfl
theorem tMay : (Tryd.prog.globals[1]?).map (·.type) = some 103 := by kernel_rfl
theorem gBec : Tryd.prog.globalNamed "bellows/agent.becomes" = some 0 := by kernel_rfl
theorem tBec : (Tryd.prog.globals[0]?).map (·.type) = some 84 := by kernel_rfl
theorem flatMay : flat (H := Unit) Rows.laid_bellows_msg_mayHave = tabL := by rfl
theorem flatBec : flat (H := Unit) Rows.laid_bellows_agent_becomes = tbL := by rfl
theorem tabs_of_laid {W : World} (h : laidMetH Tryd.prog laidM W) : Tabs W := by
  have := block_of_laid2 (n := 9) (n' := 9) gMay tMay (by kernel_rfl) gBec tBec (by kernel_rfl) (by kernel_rfl) h
  rw [flatMay, flatBec] at this
  exact this
theorem door_met (os : Os) (args : Array Value) : laidMetH Tryd.prog laidM ((World.doorLaid Tryd.prog 200 os).forCall (fun _ _ => 0) ⟨#[], args, []⟩).memory :=
  laidMetH_of_parts3 (fuel := 8) (laidMet_of_run' 8 (by kernel_rfl) (by kernel_rfl)) (by kernel_rfl) (by kernel_rfl)
def kMsg : List Kd := .int .i64 :: .int .i64 :: .bool :: .bool :: kLine
theorem msg_cells {w : World} {cs : List Value} (h : AreKd w kMsg cs) : ∃ m : Ms, cs = Ms.enc m := by
  obtain ⟨v0, c0, rfl, h0, hA⟩ := AreKd.head h
  obtain ⟨v1, c1, rfl, h1, hB⟩ := AreKd.head hA
  obtain ⟨v2, c2, rfl, h2, hC⟩ := AreKd.head hB
  obtain ⟨v3, c3, rfl, h3, hD⟩ := AreKd.head hC
  simp only [IsKd] at h0 h1 h2 h3
  obtain ⟨kd, rfl, _⟩ := h0
  obtain ⟨li, rfl, _⟩ := h1
  obtain ⟨di, rfl⟩ := h2
  obtain ⟨ke, rfl⟩ := h3
  obtain ⟨ns, hl, rfl, _⟩ := AreKd.ints (m := 8) hD
  exact ⟨⟨kd, li, di, ke, ns, hl⟩, rfl⟩
def kGSt : List Kd := .int .i64 :: .int .i64 :: .int .i64 :: .int .u64 :: kMsg
theorem gstep_cells {w : World} {cs : List Value} (h : AreKd w kGSt cs) : ∃ x : GStp, cs = GStp.enc x := by
  obtain ⟨v0, c0, rfl, h0, hA⟩ := AreKd.head h
  obtain ⟨v1, c1, rfl, h1, hB⟩ := AreKd.head hA
  obtain ⟨v2, c2, rfl, h2, hC⟩ := AreKd.head hB
  obtain ⟨v3, c3, rfl, h3, hD⟩ := AreKd.head hC
  simp only [IsKd] at h0 h1 h2 h3
  obtain ⟨kd, rfl, _⟩ := h0
  obtain ⟨li, rfl, _⟩ := h1
  obtain ⟨wd, rfl, _⟩ := h2
  obtain ⟨v, rfl, _⟩ := h3
  obtain ⟨m, rfl⟩ := msg_cells hD
  exact ⟨⟨kd, li, wd, v, m⟩, rfl⟩
theorem kinds_gst : kinds Tryd.prog 9 37 = some kGSt := by kernel_rfl
theorem kinds_line : kinds Tryd.prog 9 33 = some kLine := by kernel_rfl
theorem to_below {e : Ending} {W w' : World} (h : e = .returned (.bool true) ∧ Chg [] W w') : e = .returned (.bool true) ∧ Below W.heap.size W w' := ⟨h.1, h.2.below (Nat.le_refl _) (by simp)⟩
end Go.Proofs.YtadeoflkppiflaaDoor
