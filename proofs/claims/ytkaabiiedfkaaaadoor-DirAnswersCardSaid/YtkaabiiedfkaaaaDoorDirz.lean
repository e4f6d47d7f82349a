/- A statement of layer 7, with the table of what a kind of messages may have tied to the program's text: for every entry, core and message. No condition. -/
import Derived.Test.YtkaabiiedfkaaaaDoorCards
import Derived.Test.YtkaabiiedfkaaaaDoorTie
import Derived.Test.YtkaabiiedfkaaaaDoorLaid
import Derived.Test.YtkaabiiedfkaaaaDoorArgs
import Derived.Test.YtkaabiiedfkaaaaDoorDirx
import Derived.LaidMore
import Derived.SevenTiedAt
namespace Go.Proofs.YtkaabiiedfkaaaaDoor
open Go.ChangeShapes Go.WideShapes Go.ChangeAt Go.RowKit
set_option linter.unusedVariables false

theorem own : ownKnob Tryd.prog.godebug = none := by kernel_rfl
theorem laidOut : laidOutB Tryd.prog = true := by kernel_rfl

def laidM : List (String × DataW Unit) := [("bellows/msg.mayHave", Rows.laid_bellows_msg_mayHave)]
theorem gMay : Tryd.prog.globalNamed "bellows/msg.mayHave" = some 0 := by kernel_rfl
theorem tMay : (Tryd.prog.globals[0]?).map (·.type) = some 79 := by kernel_rfl
theorem flatMay : flat (H := Unit) Rows.laid_bellows_msg_mayHave = tabL := by rfl
theorem tab_of_laid {W : World} (h : laidMetH Tryd.prog laidM W) : Tab W := by
  have := block_of_laid (n := 9) gMay tMay (by kernel_rfl) (by kernel_rfl) h
  rw [flatMay] at this
  exact this
theorem door_met (os : Os) (args : Array Value) : laidMetH Tryd.prog laidM ((World.doorLaid Tryd.prog 20 os).forCall (fun _ _ => 0) ⟨#[], args, []⟩).memory :=
  laidMetH_of_parts3 (fuel := 8) (laidMet_of_run' 8 (by kernel_rfl) (by kernel_rfl)) (by kernel_rfl) (by kernel_rfl)
def kMsg : List Kd := .int .i64 :: .int .i64 :: .bool :: .bool :: kLine
theorem msg_cells {w : World} {cs : List Value} (h : AreKd w kMsg cs) : ∃ m : Ms, cs = Ms.enc m := by
  obtain ⟨v0, c0, rfl, h0, hA⟩ := AreKd.head h
  obtain ⟨v1, c1, rfl, h1, hB⟩ := AreKd.head hA
  obtain ⟨v2, c2, rfl, h2, hC⟩ := AreKd.head hB
  obtain ⟨v3, c3, rfl, h3, hD⟩ := AreKd.head hC
  simp only [IsKd] at h0 h1 h2 h3
  obtain ⟨kd, rfl, _⟩ := h0
  obtain ⟨li, rfl, _⟩ := h1
  obtain ⟨di, rfl⟩ := h2
  obtain ⟨ke, rfl⟩ := h3
  obtain ⟨ns, hl, rfl, _⟩ := AreKd.ints (m := 8) hD
  exact ⟨⟨kd, li, di, ke, ns, hl⟩, rfl⟩
def kEn : List Kd := .bool :: .bool :: (kLine ++ [.int .i64, .int .u8, .int .i64, .int .i64, .int .u8])
theorem u8_mask {n : Int} (h : (Lit.int .u8 n).wf = true) : ∃ s : Mk, n = mi s := by
  have := bounds_u8 h
  exact mi_of this.1 (by omega)
theorem en_cells {w : World} {cs : List Value} (h : AreKd w kEn cs) : ∃ x : En, cs = En.enc x := by
  obtain ⟨v0, c0, rfl, h0, hA⟩ := AreKd.head h
  obtain ⟨v1, c1, rfl, h1, hB⟩ := AreKd.head hA
  obtain ⟨c2, c3, rfl, hC, hD⟩ := AreKd.cut (ks := kLine) hB
  obtain ⟨v4, c4, rfl, h4, hE⟩ := AreKd.head hD
  obtain ⟨v5, c5, rfl, h5, hF⟩ := AreKd.head hE
  obtain ⟨v6, c6, rfl, h6, hG⟩ := AreKd.head hF
  obtain ⟨v7, c7, rfl, h7, hH⟩ := AreKd.head hG
  obtain ⟨v8, c8, rfl, h8, hI⟩ := AreKd.head hH
  have := hI.done
  subst this
  simp only [IsKd] at h0 h1 h4 h5 h6 h7 h8
  obtain ⟨he, rfl⟩ := h0
  obtain ⟨di, rfl⟩ := h1
  obtain ⟨ns, hl, rfl, _⟩ := AreKd.ints (m := 8) hC
  obtain ⟨ow, rfl, _⟩ := h4
  obtain ⟨sh, rfl, w5⟩ := h5
  obtain ⟨bu, rfl, _⟩ := h6
  obtain ⟨by_, rfl, _⟩ := h7
  obtain ⟨wa, rfl, w8⟩ := h8
  obtain ⟨s, rfl⟩ := u8_mask w5
  obtain ⟨t, rfl⟩ := u8_mask w8
  exact ⟨⟨he, di, ns, ow, s, bu, by_, t, hl⟩, rfl⟩
theorem kinds_msg : kinds Tryd.prog 9 28 = some kMsg := by kernel_rfl
theorem kinds_en : kinds Tryd.prog 9 26 = some kEn := by kernel_rfl
theorem kinds_line : kinds Tryd.prog 9 24 = some kLine := by kernel_rfl
theorem to_below {e : Ending} {W w' : World} (h : e = .returned (.bool true) ∧ Chg [] W w') : e = .returned (.bool true) ∧ Below W.heap.size W w' := ⟨h.1, h.2.below (Nat.le_refl _) (by simp)⟩
end Go.Proofs.YtkaabiiedfkaaaaDoor
