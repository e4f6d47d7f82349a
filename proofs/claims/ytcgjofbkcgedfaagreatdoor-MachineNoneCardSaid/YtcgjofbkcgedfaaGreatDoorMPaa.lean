/- Ends of proofs that many texts have in common, each as a default argument. No condition. -/
import Derived.Below
import Derived.BigQuiet
import Derived.ChangeAlike
import Derived.ChangeArms
import Derived.ChangeKeysEq
import Derived.Deep.Cut
import Derived.Deep.CutBlock
import Derived.Deep.CutRange
import Derived.Deep.DeepCutAuto
import Derived.Deep.MidRow
import Derived.Deep.Quiet
import Derived.Deep.QuietTactic
import Derived.Deep.RegionHeld3
import Derived.Deep.RegionLaw
import Derived.Deep.RegionWith
import Derived.DeepKeys
import Derived.Defers
import Derived.Handed
import Derived.IntWalk
import Derived.LaidHandle
import Derived.LaidMore
import Derived.Laws.Bits64b
import Derived.Laws.BitsAllLaws
import Derived.Laws.Entries
import Derived.Laws.LoneSync
import Derived.Laws.NewBlocks
import Derived.Laws.Pointers
import Derived.Laws.StructEq
import Derived.Lib.Hide
import Derived.Lib.SliceRun
import Derived.Maps.OwnOps
import Derived.OpenShut
import Derived.ProofKit
import Derived.RegionCalls
import Derived.RegionTactic
import Derived.StillTail
import Derived.StillTailTactics
import Derived.Stop.Joined
import Derived.Tactics
import Derived.Tactics2
import Derived.WalkKit
import Derived.WideShapes
namespace Go.Proofs.YtcgjofbkcgedfaaGreatDoor
open Go.RowKit
set_option linter.unusedVariables false
theorem Vn {α:Type} {a:α}:a∉([]:List α):=List.not_mem_nil
theorem Vh {p:Prop} (h:p):Hid p:=Lib.hid h
theorem Vm {α:Type} {a b:α} (h:a=b):a∈[b]:=List.mem_singleton.2 h
theorem Vs {α:Type} {a b:α} (h:a∈[b]):a=b:=List.mem_singleton.1 h
theorem Vg {α:Type} {l:List α} {i:Nat} {a:α} (h:l[i]? =some a):∃h:i<l.length,l[i]=a:=List.getElem?_eq_some_iff.1 h
theorem Cz0 {p:Prop} (h:p:=by (repeat' (first |with_reducible exact Chg.refl _ _|with_reducible assumption|with_reducible refine Chg.drew ?_|with_reducible refine Chg.drewN ?_ _|with_reducible refine Chg.alloc ?_ _|with_reducible refine Chg.putRow ?_ _ _ _ (.inr ?_)|with_reducible refine Chg.setCell ?_ _ _ _ (.inr ?_)|(show _≤_;first |exact Nat.le_refl _|omega|(simp;done))))):p:=h
theorem Cz1 {p:Prop} (h:p:=by (repeat' (first |exact Chg.refl _ _|assumption|exact Chg.refl [] _|refine Chg.drew ?_|refine Chg.drewN ?_ _|refine Chg.alloc ?_ _|refine Chg.putRow ?_ _ _ _ (.inr (by first |exact Nat.le_refl _|omega|simp))|refine Chg.setCell ?_ _ _ _ (.inr (by first |exact Nat.le_refl _|omega|simp))))):p:=h
theorem Cz2 {p:Prop} (h:p:=by (repeat' (first |with_reducible exact T3|with_reducible exact Chg.refl _ _|with_reducible refine Chg.alloc ?_ _|with_reducible refine Chg.drew ?_|with_reducible refine Chg.putRow ?_ _ _ _ (.inr ?_)|with_reducible exact Chg.size T3|with_reducible exact Nat.le_refl _))):p:=h
theorem Cz3 {p:Prop} (h:p:=by (repeat' (first |with_reducible exact cO|with_reducible exact Chg.refl _ _|with_reducible refine Chg.alloc ?_ _|with_reducible refine Chg.drew ?_|with_reducible refine Chg.putRow ?_ _ _ _ (.inr ?_)|with_reducible exact Chg.size cO|with_reducible exact Nat.le_refl _))):p:=h
theorem Cz4 {p:Prop} (h:p:=by first |exact Nat.le_refl _|omega|simp):p:=h
theorem Cz5 {p:Prop} (h:p:=by intro a ha;have:=hA3 a ha;have:=oR.lt;simp;omega):p:=h
theorem Cz6 {p:Prop} (h:p:=by (repeat' (first |with_reducible exact Chg.refl _ _|with_reducible refine Chg.alloc ?_ _|with_reducible refine Chg.drew ?_))):p:=h
theorem Cz7 {p:Prop} (h:p:=by first |exact o0|exact o0.chg C1|(show (0:Nat)<_;simpa using o0.lt)):p:=h
theorem Cz8 {p:Prop} (h:p:=by first |exact rR2|(simp [rR2];done)):p:=h
theorem Cz9 {p:Prop} (h:p:=by simp (maxDischargeDepth:=8) [*];try rfl):p:=h
theorem Cz10 {p:Prop} (h:p:=by first |exact Chg.drew (Chg.refl [] w3)|exact Chg.alloc (Chg.drew (Chg.refl [] w3)) _):p:=h
theorem Cz11 {p:Prop} (h:p:=by have:=HN.out;omega):p:=h
theorem Cz12 {p:Prop} (h:p:=by rw [←HN.out];exact hlt):p:=h
theorem Cz13 {p:Prop} (h:p:=by have h1:=hq.lt;have h2:w.drew.heap.size=w.heap.size:=rfl;omega):p:=h
theorem Cz14 {p:Prop} (h:p:=by (repeat' (first |with_reducible exact Chg.refl _ _|with_reducible assumption|with_reducible refine Chg.drew ?_|with_reducible refine Chg.alloc ?_ _))):p:=h
theorem Cz15 {p:Prop} (h:p:=by first |exact o0|exact Old.chg (b:=0) (by exact o0) c3|exact Old.chg (b:=0) o0 c3|(show (0:Nat)<_;have:=o0.lt;have:=c3.size;simp at *;omega)):p:=h
theorem Cz16 {p:Prop} (h:p:=by first |exact hA2|exact (fun a ha=>Nat.le_trans c3.size (hA2 a ha))|(intro a ha;have:=hA2 a ha;have:=c3.size;simp at *;omega)):p:=h
theorem Cz17 {p:Prop} (h:p:=by unfold maxLen;omega):p:=h
end Go.Proofs.YtcgjofbkcgedfaaGreatDoor
