/-
  DERIVED. GIVEN WITH THE SEED: THE CARDS: each row of YtkaabiiedfkaaaaDoorRows.lean that lists a variable, with what it lists TIED to the program's text (the seventh form; the later family's looks); each row that meets fmt, with fmt's text TOLD by the authors' own Lean function (tested against real Go, not proved from fmt's source: count such statements apart). THE CARD IS WHAT COUNTS. Prove the row's statement (the work); the ties are given (YtkaabiiedfkaaaaDoorTie.lean); close each card by the builder's one call (the guide's Derived/Test/ToyasCard.lean, 'card_holds'). Laid BY PROGRAM, IN A SANDBOX (cutbox-door.mjs). By AI agents, Wed Nov 11 2026. No macro, syntax, notation, axiom, sorry.
-/
import Derived.Test.YtkaabiiedfkaaaaDoorRows
import GoSem.ClaimSeven
namespace Go.Proofs.YtkaabiiedfkaaaaDoor
namespace Rows

/-- THE TIED CARD OF 'bellowslaw07.DirAsks'. -/
def dirAsksCard : Claim7 := { stood := { row := dirAsksRow, standIns := [], harness := (true, "957455fb8db7163b6e3e26e22305c40302e94d8fa072608e8e2b604b70807674"), looks := false }, kinds := [], alts := [], laidByText := true, laidKinds := [.data], laidTests := true, laidLooks := .later }
def DirAsksCardSaid : Prop := Claim7.holds Tryd.pinned (.plain (OpenSpec.ofChange dirAsksSpec)) dirAsksCard

/-- THE TIED CARD OF 'bellowslaw07.DirAnswers'. -/
def dirAnswersCard : Claim7 := { stood := { row := dirAnswersRow, standIns := [], harness := (true, "957455fb8db7163b6e3e26e22305c40302e94d8fa072608e8e2b604b70807674"), looks := false }, kinds := [], alts := [], laidByText := true, laidKinds := [.data], laidTests := true, laidLooks := .later }
def DirAnswersCardSaid : Prop := Claim7.holds Tryd.pinned (.plain (OpenSpec.ofChange dirAnswersSpec)) dirAnswersCard

/-- THE TIED CARD OF 'bellowslaw07.DirGood'. -/
def dirGoodCard : Claim7 := { stood := { row := dirGoodRow, standIns := [], harness := (true, "957455fb8db7163b6e3e26e22305c40302e94d8fa072608e8e2b604b70807674"), looks := false }, kinds := [], alts := [], laidByText := true, laidKinds := [.data], laidTests := true, laidLooks := .later }
def DirGoodCardSaid : Prop := Claim7.holds Tryd.pinned (.plain (OpenSpec.ofChange dirGoodSpec)) dirGoodCard

/-- THE TIED CARD OF 'bellowslaw07.DirEnds'. -/
def dirEndsCard : Claim7 := { stood := { row := dirEndsRow, standIns := [], harness := (true, "957455fb8db7163b6e3e26e22305c40302e94d8fa072608e8e2b604b70807674"), looks := false }, kinds := [], alts := [], laidByText := true, laidKinds := [.data], laidTests := true, laidLooks := .later }
def DirEndsCardSaid : Prop := Claim7.holds Tryd.pinned (.plain (OpenSpec.ofChange dirEndsSpec)) dirEndsCard

/-- THE TIED CARD OF 'bellowslaw07.DirPuts'. -/
def dirPutsCard : Claim7 := { stood := { row := dirPutsRow, standIns := [], harness := (true, "957455fb8db7163b6e3e26e22305c40302e94d8fa072608e8e2b604b70807674"), looks := false }, kinds := [], alts := [], laidByText := true, laidKinds := [.data], laidTests := true, laidLooks := .later }
def DirPutsCardSaid : Prop := Claim7.holds Tryd.pinned (.plain (OpenSpec.ofChange dirPutsSpec)) dirPutsCard

/-- THE TIED CARD OF 'bellowslaw07.DirFlushes'. -/
def dirFlushesCard : Claim7 := { stood := { row := dirFlushesRow, standIns := [], harness := (true, "957455fb8db7163b6e3e26e22305c40302e94d8fa072608e8e2b604b70807674"), looks := false }, kinds := [], alts := [], laidByText := true, laidKinds := [.data], laidTests := true, laidLooks := .later }
def DirFlushesCardSaid : Prop := Claim7.holds Tryd.pinned (.plain (OpenSpec.ofChange dirFlushesSpec)) dirFlushesCard

/-- THE SECOND FORM's CARD OF 'bellowslaw07.DirAsks'. -/
def dirAsksUptoCard : Claim7 := { stood := { row := dirAsksUptoRow, standIns := [], harness := (true, "957455fb8db7163b6e3e26e22305c40302e94d8fa072608e8e2b604b70807674"), looks := false }, kinds := [], alts := [], laidByText := true, laidKinds := [.data], laidTests := true, laidLooks := .later }
def DirAsksUptoCardSaid : Prop := Claim7.holds Tryd.pinned (.plain (OpenSpec.upto dirAsksSpec)) dirAsksUptoCard

/-- THE SECOND FORM's CARD OF 'bellowslaw07.DirAnswers'. -/
def dirAnswersUptoCard : Claim7 := { stood := { row := dirAnswersUptoRow, standIns := [], harness := (true, "957455fb8db7163b6e3e26e22305c40302e94d8fa072608e8e2b604b70807674"), looks := false }, kinds := [], alts := [], laidByText := true, laidKinds := [.data], laidTests := true, laidLooks := .later }
def DirAnswersUptoCardSaid : Prop := Claim7.holds Tryd.pinned (.plain (OpenSpec.upto dirAnswersSpec)) dirAnswersUptoCard

/-- THE SECOND FORM's CARD OF 'bellowslaw07.DirGood'. -/
def dirGoodUptoCard : Claim7 := { stood := { row := dirGoodUptoRow, standIns := [], harness := (true, "957455fb8db7163b6e3e26e22305c40302e94d8fa072608e8e2b604b70807674"), looks := false }, kinds := [], alts := [], laidByText := true, laidKinds := [.data], laidTests := true, laidLooks := .later }
def DirGoodUptoCardSaid : Prop := Claim7.holds Tryd.pinned (.plain (OpenSpec.upto dirGoodSpec)) dirGoodUptoCard

/-- THE SECOND FORM's CARD OF 'bellowslaw07.DirEnds'. -/
def dirEndsUptoCard : Claim7 := { stood := { row := dirEndsUptoRow, standIns := [], harness := (true, "957455fb8db7163b6e3e26e22305c40302e94d8fa072608e8e2b604b70807674"), looks := false }, kinds := [], alts := [], laidByText := true, laidKinds := [.data], laidTests := true, laidLooks := .later }
def DirEndsUptoCardSaid : Prop := Claim7.holds Tryd.pinned (.plain (OpenSpec.upto dirEndsSpec)) dirEndsUptoCard

/-- THE SECOND FORM's CARD OF 'bellowslaw07.DirPuts'. -/
def dirPutsUptoCard : Claim7 := { stood := { row := dirPutsUptoRow, standIns := [], harness := (true, "957455fb8db7163b6e3e26e22305c40302e94d8fa072608e8e2b604b70807674"), looks := false }, kinds := [], alts := [], laidByText := true, laidKinds := [.data], laidTests := true, laidLooks := .later }
def DirPutsUptoCardSaid : Prop := Claim7.holds Tryd.pinned (.plain (OpenSpec.upto dirPutsSpec)) dirPutsUptoCard

/-- THE SECOND FORM's CARD OF 'bellowslaw07.DirFlushes'. -/
def dirFlushesUptoCard : Claim7 := { stood := { row := dirFlushesUptoRow, standIns := [], harness := (true, "957455fb8db7163b6e3e26e22305c40302e94d8fa072608e8e2b604b70807674"), looks := false }, kinds := [], alts := [], laidByText := true, laidKinds := [.data], laidTests := true, laidLooks := .later }
def DirFlushesUptoCardSaid : Prop := Claim7.holds Tryd.pinned (.plain (OpenSpec.upto dirFlushesSpec)) dirFlushesUptoCard
end Rows
end Go.Proofs.YtkaabiiedfkaaaaDoor
