/- Ends of proofs that many texts have in common, each as a default argument. No condition. -/
import Derived.Below
import Derived.BigGuard
import Derived.BigGuardPart
import Derived.BigQuiet
import Derived.ChangeArms
import Derived.ChangeKeysEq
import Derived.Deep.Cut
import Derived.Deep.CutBlock
import Derived.Deep.CutRange
import Derived.Deep.DeepCutAuto
import Derived.Deep.MidRow
import Derived.Deep.QuietTactic
import Derived.Deep.RegionHeld3
import Derived.Deep.RegionLaw
import Derived.Deep.RegionWith
import Derived.DeepKeys
import Derived.Handed
import Derived.IntWalk
import Derived.LaidHandle
import Derived.LaidMore
import Derived.Laws.BitsAllLaws
import Derived.Laws.Entries
import Derived.Laws.LoneSync
import Derived.Laws.StructEq
import Derived.Lib.Hide
import Derived.Lib.SliceRun
import Derived.OpenShut
import Derived.ProofKit
import Derived.SevenTiedAt
import Derived.Stop.Joined
import Derived.WalkKit
import Derived.WideShapes
namespace Go.Proofs.YtadeoflkppiflaaGreatDoor
open Go.RowKit
set_option linter.unusedVariables false
theorem Vn {α:Type} {a:α}:a∉([]:List α):=List.not_mem_nil
theorem Vh {p:Prop} (h:p):Hid p:=Lib.hid h
theorem Vm {α:Type} {a b:α} (h:a=b):a∈[b]:=List.mem_singleton.2 h
theorem Vs {α:Type} {a b:α} (h:a∈[b]):a=b:=List.mem_singleton.1 h
theorem Vg {α:Type} {l:List α} {i:Nat} {a:α} (h:l[i]? =some a):∃h:i<l.length,l[i]=a:=List.getElem?_eq_some_iff.1 h
theorem Cz0 {p:Prop} (h:p:=by (repeat' (first |with_reducible exact Chg.refl _ _|with_reducible assumption|with_reducible refine Chg.drew ?_|with_reducible refine Chg.drewN ?_ _|with_reducible refine Chg.alloc ?_ _|with_reducible refine Chg.putRow ?_ _ _ _ (.inr ?_)|with_reducible refine Chg.setCell ?_ _ _ _ (.inr ?_)|(show _≤_;first |exact Nat.le_refl _|omega|(simp;done))))):p:=h
theorem Cz1 {p:Prop} (h:p:=by (repeat' (first |exact Chg.refl _ _|assumption|exact Chg.refl [] _|refine Chg.drew ?_|refine Chg.drewN ?_ _|refine Chg.alloc ?_ _|refine Chg.putRow ?_ _ _ _ (.inr (by first |exact Nat.le_refl _|omega|simp))|refine Chg.setCell ?_ _ _ _ (.inr (by first |exact Nat.le_refl _|omega|simp))))):p:=h
theorem Cz2 {p:Prop} (h:p:=by (repeat' (first |with_reducible exact cO|with_reducible exact Chg.refl _ _|with_reducible refine Chg.alloc ?_ _|with_reducible refine Chg.drew ?_|with_reducible refine Chg.putRow ?_ _ _ _ (.inr ?_)|with_reducible exact Chg.size cO|with_reducible exact Nat.le_refl _))):p:=h
theorem Cz3 {p:Prop} (h:p:=by (repeat' (first |with_reducible exact Tc|with_reducible exact Chg.refl _ _|with_reducible refine Chg.alloc ?_ _|with_reducible refine Chg.drew ?_|with_reducible refine Chg.putRow ?_ _ _ _ (.inl (Vm rfl))))):p:=h
theorem Cz4 {p:Prop} (h:p:=by first |exact Nat.le_refl _|omega|simp):p:=h
theorem Cz5 {p:Prop} (h:p:=by first |with_reducible exact r0|(rw [Qb _ _ _ _ _ (by rw [r0];rfl),if_pos rfl,r0];exact Qe _ _ _ _ rfl)):p:=h
theorem Cz6 {p:Prop} (h:p:=by first |with_reducible exact Chg.refl _ _|exact (Chg.refl [b] w5).putRow _ _ _ (.inl (by simp))):p:=h
theorem Cz7 {p:Prop} (h:p:=by intro a ha;have:=hA3 a ha;have:=oR.lt;simp;omega):p:=h
theorem Cz8 {p:Prop} (h:p:=by rw [Qb _ _ _ _ _ (by rw [r0,Qd,Zu,Zu];rfl),if_pos rfl,r0];exact Qe _ _ _ _ (by rw [Zu,Zu])):p:=h
theorem Cz9 {p:Prop} (h:p:=by (repeat' (first |with_reducible exact cO|with_reducible exact cT|with_reducible exact Chg.refl _ _|with_reducible refine Chg.alloc ?_ _|with_reducible refine Chg.drew ?_|with_reducible refine Chg.putRow ?_ _ _ _ (.inl (Vm rfl))))):p:=h
theorem Cz10 {p:Prop} (h:p:=by (repeat' (first |with_reducible exact Tb|with_reducible exact Td|with_reducible exact Chg.refl _ _|with_reducible refine Chg.alloc ?_ _|with_reducible refine Chg.drew ?_|with_reducible refine Chg.putRow ?_ _ _ _ (.inl (Vm rfl))))):p:=h
theorem Cz11 {p:Prop} (h:p:=by (repeat' (first |with_reducible exact Tb|with_reducible exact Tc|with_reducible exact Chg.refl _ _|with_reducible refine Chg.alloc ?_ _|with_reducible refine Chg.drew ?_|with_reducible refine Chg.putRow ?_ _ _ _ (.inl (Vm rfl))))):p:=h
theorem Cz12 {p:Prop} (h:p:=by rw [e];exact RLay.inB (RLay.beB (by simp))):p:=h
theorem Cz13 {p:Prop} (h:p:=by first |exact o0|exact o0.chg C1|(show (0:Nat)<_;simpa using o0.lt)):p:=h
theorem Cz14 {p:Prop} (h:p:=by rw [List.length_set];exact HH.out.lines):p:=h
theorem Cz15 {p:Prop} (h:p:=by first |exact rR2|(simp [rR2];done)):p:=h
theorem Cz16 {p:Prop} (h:p:=by simp (maxDischargeDepth:=8) [*];try rfl):p:=h
theorem Cz17 {p:Prop} (h:p:=by rw [←HN.out];exact hlt):p:=h
theorem Cz18 {p:Prop} (h:p:=by intro y hy;rw [List.mem_singleton] at hy;exact .inl (by simp [hy])):p:=h
theorem Cz19 {p:Prop} (h:p:=by (repeat' (first |with_reducible exact Ta|with_reducible exact Tb|with_reducible exact Td|with_reducible exact Chg.refl _ _|with_reducible refine Chg.alloc ?_ _|with_reducible refine Chg.drew ?_|with_reducible refine Chg.putRow ?_ _ _ _ (.inl (Vm rfl))))):p:=h
theorem Cz20 {p:Prop} (h:p:=by (repeat' (first |with_reducible exact Ta|with_reducible exact Tb|with_reducible exact Tc|with_reducible exact Chg.refl _ _|with_reducible refine Chg.alloc ?_ _|with_reducible refine Chg.drew ?_|with_reducible refine Chg.putRow ?_ _ _ _ (.inl (Vm rfl))))):p:=h
theorem Cz21 {p:Prop} (h:p:=by first |exact Chg.drew (Chg.refl [] w3)|exact Chg.alloc (Chg.drew (Chg.refl [] w3)) _):p:=h
theorem Cz22 {p:Prop} (h:p:=by simp;intro e1;exact HBZ.out (by rw [←e1];exact RLay.inB (RLay.beB (by simp)))):p:=h
theorem Cz23 {p:Prop} (h:p:=by first |rw [ZQ,hps];rfl|(rw [ZQ,hps])):p:=h
theorem Cz24 {p:Prop} (h:p:=by have h1:=hq.lt;have h2:w.drew.heap.size=w.heap.size:=rfl;omega):p:=h
theorem Cz25 {p:Prop} (h:p:=by have:=HQ.out;have:=H1.out;show x.up.length+_≤1000;omega):p:=h
theorem Cz26 {p:Prop} (h:p:=by have:=HV.out.le;simpa using this):p:=h
theorem Cz27 {p:Prop} (h:p:=by rcases hk with h|h|h<;>simp [h]):p:=h
theorem Cz28 {p:Prop} (h:p:=by rcases h3 with h|h|h<;>simp [h]):p:=h
theorem Cz29 {p:Prop} (h:p:=by unfold maxLen;omega):p:=h
theorem Cz30 {p:Prop} (h:p:=by first |exact o0|exact Old.chg (b:=0) (by exact o0) c3|exact Old.chg (b:=0) o0 c3|(show (0:Nat)<_;have:=o0.lt;have:=c3.size;simp at *;omega)):p:=h
theorem Cz31 {p:Prop} (h:p:=by first |exact hA2|exact (fun a ha=>Nat.le_trans c3.size (hA2 a ha))|(intro a ha;have:=hA2 a ha;have:=c3.size;simp at *;omega)):p:=h
theorem Cz32 {p:Prop} (h:p:=by rw [List.length_set];exact (Qn s.1 li).h):p:=h
theorem Tz0 {p:Prop} (h:p:=by
 exact ⟨rfl,by (repeat' (first |with_reducible exact Chg.refl _ _|with_reducible assumption|with_reducible refine Chg.drew ?_|with_reducible refine Chg.drewN ?_ _|with_reducible refine Chg.alloc ?_ _|with_reducible refine Chg.putRow ?_ _ _ _ (.inr ?_)|with_reducible refine Chg.setCell ?_ _ _ _ (.inr ?_)|(show _≤_;first |exact Nat.le_refl _|omega|(simp;done))))⟩):p:=h
theorem Tz1 {p:Prop} (h:p:=by
 have HH:=Vh HC
 have HF:=Vh hF
 have HW:=Vh hW
 clear hk HC hF hW
 go_enter Tryz.func15,Tryz.ntmps15
 try dsimp only [List.append]
 go_wp2_with fail
 have r0:((w.alloc (.cells (mstc x) 42)).alloc (.cells (didc ⟨0,false,msZ,0⟩) 44)).heap[w.heap.size+1]? =some (.cells (didc ⟨0,false,msZ,0⟩) 44 (0,0)):=by simp
 have C2:=Vh (((Chg.refl [] w).alloc (.cells (mstc x) 42)).alloc (.cells (didc ⟨0,false,msZ,0⟩) 44))
 have Z2:=Vh (show ((w.alloc (.cells (mstc x) 42)).alloc (.cells (didc ⟨0,false,msZ,0⟩) 44)).heap.size=w.heap.size+2 by simp)
 refine (HH.out _ C2.out).mono ?_
 rintro e w5 ⟨rfl,m5⟩
 have M5:=Vh m5
 replace r0:=m5.choose_spec.2.1.keep r0 (fun h=>by have:=HF.out _ h;omega)
 have o0:=old r0
 generalize hb:w.heap.size+1=b at r0 o0 ⊢
 have HB:=Vh hb
 clear hb m5
 go_wp2_with fail
 refine bodyPost_ret (v:=.agg (didc ⟨0,false,msZ,de⟩)) ?_ (by rfl) ?_
 ·exact XJ (by rfl) _ _ b ⟨0,false,msZ,de⟩ (0,0) (by rfl) Cz8
 ·refine ⟨rfl,RMTS.wrap HW.out HF.out C2.out M5.out [b] (fun q hq=>?_) ((Chg.refl [b] w5).putRow _ _ _ (.inl (by simp)))⟩
  rw [List.mem_singleton] at hq
  subst hq
  have hz:=Z2.out
  have hb:=HB.out
  exact ⟨by omega,.inl (by omega)⟩):p:=h
theorem Tz2 {p:Prop} (h:p:=by
 clear hk HC hF hW
 go_enter Tryz.func14,Tryz.ntmps14
 try dsimp only [List.append]
 go_wp2_with fail
 have r0:((w.alloc (.cells (mstc x) 42)).alloc (.cells (msc msZ) 38)).heap[w.heap.size+1]? =some (.cells (msc msZ) 38 (0,0)):=by simp
 have C2:=Vh (((Chg.refl [] w).alloc (.cells (mstc x) 42)).alloc (.cells (msc msZ) 38))
 have Z2:=Vh (show ((w.alloc (.cells (mstc x) 42)).alloc (.cells (msc msZ) 38)).heap.size=w.heap.size+2 by simp)
 refine (HH.out _ C2.out).mono ?_
 rintro e w5 ⟨rfl,m5⟩
 have M5:=Vh m5
 replace r0:=m5.choose_spec.2.1.keep r0 (fun h=>by have:=HF.out _ h;omega)
 have o0:=old r0
 generalize hb:w.heap.size+1=b at r0 o0 ⊢
 have HB:=Vh hb
 clear hb m5
 go_wp2_with fail
 refine bodyPost_ret (v:=.tuple #[.int .u64 0,.bool false,.agg (msc msZ),.int .i64 de]) ?_ (by rfl) ?_
 ·exact X9 (by rfl) _ _ b msZ (0,0) (by rfl) Cz5 _ _ _ (by rfl) (by rfl) (by rfl)
 ·refine ⟨rfl,MTS.wrap HW.out HF.out C2.out M5.out [b] (fun q hq=>?_) Cz6⟩
  rw [List.mem_singleton] at hq
  subst hq
  have hz:=Z2.out
  have hb:=HB.out
  exact ⟨by omega,.inl (by omega)⟩):p:=h
theorem Tz3 {p:Prop} (h:p:=by
 go_enter Tryz.func117,Tryz.ntmps117
 try dsimp only [List.append]
 go_wp2_with fail
 have cb:=(Chg.refl [] w).alloc (.cells (msc m) 38 (0,0))
 have rM:(w.alloc (.cells (msc m) 38 (0,0))).heap[w.heap.size]? =some (.cells (msc m) 38 (0,0)):=by simp
 have nM:=H.out.new2 (k:=w.heap.size) (Nat.le_refl _)
 have mM:=H.out.new3 (k:=w.heap.size) (Nat.le_refl _)
 replace H:=Vh (H.out.keep cb)
 replace CW:=Vh (CW.out.trans (Zp cb))
 clear cb
 generalize w.heap.size=pM at rM nM mM ⊢
 generalize w.alloc (.cells (msc m) 38 (0,0))=w1 at rM H CW ⊢
 have rG:=H.out.2.1
 have oM:=old rM
 refine (X2 m _ g3 w1).mono ?_
 rintro e w2 ⟨rfl,c2⟩
 replace H:=Vh (H.out.keep c2)
 replace CW:=Vh (CW.out.trans (Zp c2))
 replace rM:=c2.keep rM Vn
 clear c2
 have rG:=H.out.2.1
 have oM2:=old rM
 go_wp2_with (go_at_call 185;refine (X1 _ _ g4 _).mono ?_;rintro e w' ⟨rfl,rfl⟩)
 refine (hsl w2 H.out).mono ?_
 clear hsl
 rintro e w3 ⟨rfl,c3⟩
 replace H:=Vh (H.out.keep c3)
 replace CW:=Vh (CW.out.trans (Zp c3))
 replace rM:=c3.keep rM Vn
 clear c3
 have rG:=H.out.2.1
 go_upto_region 7 with fail
 have cb:=(Chg.refl [] w3).alloc (.cells (slc x) 197 (0,0))
 have rX:(w3.alloc (.cells (slc x) 197 (0,0))).heap[w3.heap.size]? =some (.cells (slc x) 197 (0,0)):=by simp
 have nX:=H.out.new2 (k:=w3.heap.size) (Nat.le_refl _)
 have mX:=H.out.new3 (k:=w3.heap.size) (Nat.le_refl _)
 have uX:=CW.out.size
 replace H:=Vh (H.out.keep cb)
 replace CW:=Vh (CW.out.trans (Zp cb))
 replace rM:=cb.keep rM Vn
 clear cb
 generalize w3.heap.size=pX at rX nX mX uX ⊢
 generalize w3.alloc (.cells (slc x) 197 (0,0))=w5 at rX H CW rM ⊢
 have rG:=H.out.2.1
 have oX:=old rX
 have oM5:=old rM
 go_wp2_with fail
 go_ret2
 exact RgRet.nil (f:=fun v=>.tuple #[v,.int .i64 16]) H.out CW.out):p:=h
theorem Tz4 {p:Prop} (h:p:=by
 go_enter Tryz.func117,Tryz.ntmps117
 try dsimp only [List.append]
 go_wp2_with fail
 have cb:=(Chg.refl [] w).alloc (.cells (msc m) 38 (0,0))
 have rM:(w.alloc (.cells (msc m) 38 (0,0))).heap[w.heap.size]? =some (.cells (msc m) 38 (0,0)):=by simp
 have nM:=H.out.new2 (k:=w.heap.size) (Nat.le_refl _)
 have mM:=H.out.new3 (k:=w.heap.size) (Nat.le_refl _)
 replace H:=Vh (H.out.keep cb)
 replace CW:=Vh (CW.out.trans (Zp cb))
 clear cb
 generalize w.heap.size=pM at rM nM mM ⊢
 generalize w.alloc (.cells (msc m) 38 (0,0))=w1 at rM H CW ⊢
 have rG:=H.out.2.1
 have oM:=old rM
 refine (X2 m _ g3 w1).mono ?_
 rintro e w2 ⟨rfl,c2⟩
 replace H:=Vh (H.out.keep c2)
 replace CW:=Vh (CW.out.trans (Zp c2))
 replace rM:=c2.keep rM Vn
 clear c2
 have rG:=H.out.2.1
 have oM2:=old rM
 go_wp2_with (go_at_call 185;refine (X1 _ _ g4 _).mono ?_;rintro e w' ⟨rfl,rfl⟩)
 refine (hsl w2 H.out).mono ?_
 clear hsl
 rintro e w3 ⟨rfl,c3⟩
 replace H:=Vh (H.out.keep c3)
 replace CW:=Vh (CW.out.trans (Zp c3))
 replace rM:=c3.keep rM Vn
 clear c3
 have rG:=H.out.2.1
 go_upto_region 7 with fail
 have cb:=(Chg.refl [] w3).alloc (.cells (slc x) 197 (0,0))
 have rX:(w3.alloc (.cells (slc x) 197 (0,0))).heap[w3.heap.size]? =some (.cells (slc x) 197 (0,0)):=by simp
 have nX:=H.out.new2 (k:=w3.heap.size) (Nat.le_refl _)
 have mX:=H.out.new3 (k:=w3.heap.size) (Nat.le_refl _)
 have uX:=CW.out.size
 replace H:=Vh (H.out.keep cb)
 replace CW:=Vh (CW.out.trans (Zp cb))
 replace rM:=cb.keep rM Vn
 clear cb
 generalize w3.heap.size=pX at rX nX mX uX ⊢
 generalize w3.alloc (.cells (slc x) 197 (0,0))=w5 at rX H CW rM ⊢
 have rG:=H.out.2.1
 have oX:=old rX
 have oM5:=old rM
 go_wp2_with fail
 have nG:=H.out.2.2.1
 go_region_held3 (fun w'=>w'.heap[g]? =some (.cells #[.pointer (some ⟨a,0,none⟩)] 126 (0,0))∧w'.heap[pM]? =some (.cells (msc m) 38 (0,0))∧w'.heap[pX]? =some (.cells (slc x) 197 (0,0))) (first |exact ⟨rG,rM,rX⟩|exact ⟨c4.keep rG nG,c4.keep rM nM,c4.keep rX nX⟩)
  (first
   |(go_at_call 170;refine (Ju (H.out.keep (Chg.drew (Chg.refl [] w5))) hu m.li 2 m.l m.h).mono ?_;rintro e w4 ⟨rfl,h4,c4⟩))
 all_goals
  replace H:=Vh h4
  replace CW:=Vh (CW.out.trans (Chg.trans (Chg.drew (Chg.refl [a,b] w5)) c4))
  replace rM:=c4.keep rM nM
  replace rX:=c4.keep rX nX
  clear h4 c4 rG
  have rG:=H.out.2.1
  go_wp2_with fail
  go_ret2
  exact RgRet.nil (f:=fun v=>.tuple #[v,.int .i64 0]) H.out CW.out):p:=h
theorem Tz5 {p:Prop} (h:p:=by
 go_enter Tryz.func117,Tryz.ntmps117
 try dsimp only [List.append]
 go_wp2_with fail
 have cb:=(Chg.refl [] w).alloc (.cells (msc m) 38 (0,0))
 have rM:(w.alloc (.cells (msc m) 38 (0,0))).heap[w.heap.size]? =some (.cells (msc m) 38 (0,0)):=by simp
 have nM:=H.out.new2 (k:=w.heap.size) (Nat.le_refl _)
 have mM:=H.out.new3 (k:=w.heap.size) (Nat.le_refl _)
 replace H:=Vh (H.out.keep cb)
 replace CW:=Vh (CW.out.trans (Zp cb))
 clear cb
 generalize w.heap.size=pM at rM nM mM ⊢
 generalize w.alloc (.cells (msc m) 38 (0,0))=w1 at rM H CW ⊢
 have rG:=H.out.2.1
 have oM:=old rM
 refine (X2 m _ g3 w1).mono ?_
 rintro e w2 ⟨rfl,c2⟩
 replace H:=Vh (H.out.keep c2)
 replace CW:=Vh (CW.out.trans (Zp c2))
 replace rM:=c2.keep rM Vn
 clear c2
 have rG:=H.out.2.1
 have oM2:=old rM
 go_wp2_with (go_at_call 185;refine (X1 _ _ g4 _).mono ?_;rintro e w' ⟨rfl,rfl⟩)
 refine (hsl w2 H.out).mono ?_
 clear hsl
 rintro e w3 ⟨rfl,c3⟩
 replace H:=Vh (H.out.keep c3)
 replace CW:=Vh (CW.out.trans (Zp c3))
 replace rM:=c3.keep rM Vn
 clear c3
 have rG:=H.out.2.1
 go_upto_region 7 with fail
 have cb:=(Chg.refl [] w3).alloc (.cells (slc x) 197 (0,0))
 have rX:(w3.alloc (.cells (slc x) 197 (0,0))).heap[w3.heap.size]? =some (.cells (slc x) 197 (0,0)):=by simp
 have nX:=H.out.new2 (k:=w3.heap.size) (Nat.le_refl _)
 have mX:=H.out.new3 (k:=w3.heap.size) (Nat.le_refl _)
 have uX:=CW.out.size
 replace H:=Vh (H.out.keep cb)
 replace CW:=Vh (CW.out.trans (Zp cb))
 replace rM:=cb.keep rM Vn
 clear cb
 generalize w3.heap.size=pX at rX nX mX uX ⊢
 generalize w3.alloc (.cells (slc x) 197 (0,0))=w5 at rX H CW rM ⊢
 have rG:=H.out.2.1
 have oX:=old rX
 have oM5:=old rM
 go_wp2_with fail
 have nG:=H.out.2.2.1
 go_region_held3 (fun w'=>w'.heap[g]? =some (.cells #[.pointer (some ⟨a,0,none⟩)] 126 (0,0))∧w'.heap[pM]? =some (.cells (msc m) 38 (0,0))∧w'.heap[pX]? =some (.cells (slc x) 197 (0,0))) (first |exact ⟨rG,rM,rX⟩|exact ⟨c4.keep rG nG,c4.keep rM nM,c4.keep rX nX⟩)
  (first
   |(go_at_call 186;refine (Qbh (H.out.keep (Chg.drew (Chg.refl [] w5))) m.li).mono ?_;rintro e w4 ⟨rfl,h4,c4⟩))
 all_goals
  replace H:=Vh h4
  replace CW:=Vh (CW.out.trans (Chg.trans (Chg.drew (Chg.refl [a,b] w5)) c4))
  replace rM:=c4.keep rM nM
  replace rX:=c4.keep rX nX
  clear h4 c4 rG
  have rG:=H.out.2.1
  go_wp2_with fail
  go_ret2
  exact RgRet.nil (f:=fun v=>.tuple #[v,.int .i64 0]) H.out CW.out):p:=h
theorem Tz6 {p:Prop} (h:p:=by
 go_region_held3 (fun w'=>w'.heap[w.heap.size]? =some (.cells (ec (x)) 117 (0,0))∧w'.heap[w.heap.size+1]? =some (.cells (msc m) 38 (0,0))) (exact ⟨Chg.keep (l:=[w.heap.size+2]) (w:=w8) Cz11 rE (by simp),Chg.keep (l:=[w.heap.size+2]) (w:=w8) Cz11 rM (by simp)⟩)
  (first
   |(go_at_call 182;refine (Qev _ _ _).mono ?_;rintro e w' ⟨rfl,cb⟩;(first |(have Tb:Chg [w.heap.size+2] w8 _:=Chg.trans ((Chg.refl [w.heap.size+2] w8).drew) (Chg.mono cb (fun _ h=>absurd h Vn)))|(have Tb:Chg [w.heap.size+2] w8 _:=Chg.trans (Chg.alloc ((Chg.refl [w.heap.size+2] w8).drew) _) (Chg.mono cb (fun _ h=>absurd h Vn)))|(have Tb:Chg [w.heap.size+2] w8 _:=Chg.trans (Chg.putRow ((Chg.refl [w.heap.size+2] w8).drew) (w.heap.size+2) 0 _ (.inl (Vm rfl))) (Chg.mono cb (fun _ h=>absurd h Vn)))|(have Tb:Chg [w.heap.size+2] w8 _:=Chg.trans (Chg.putRow (Chg.alloc ((Chg.refl [w.heap.size+2] w8).drew) _) (w.heap.size+2) 0 _ (.inl (Vm rfl))) (Chg.mono cb (fun _ h=>absurd h Vn)))|(have Tb:Chg [w.heap.size+2] w8 _:=Chg.trans (Chg.alloc (Chg.putRow ((Chg.refl [w.heap.size+2] w8).drew) (w.heap.size+2) 0 _ (.inl (Vm rfl))) _) (Chg.mono cb (fun _ h=>absurd h Vn)))|(have Tb:Chg [w.heap.size+2] w8 _:=Chg.trans Tc (Chg.mono cb (fun _ h=>absurd h Vn)))|(have Tb:Chg [w.heap.size+2] w8 _:=Chg.trans (Chg.alloc Tc _) (Chg.mono cb (fun _ h=>absurd h Vn)))|(have Tb:Chg [w.heap.size+2] w8 _:=Chg.trans (Chg.putRow Tc (w.heap.size+2) 0 _ (.inl (Vm rfl))) (Chg.mono cb (fun _ h=>absurd h Vn)))|(have Tb:Chg [w.heap.size+2] w8 _:=Chg.trans (Chg.putRow (Chg.alloc Tc _) (w.heap.size+2) 0 _ (.inl (Vm rfl))) (Chg.mono cb (fun _ h=>absurd h Vn)))|(have Tb:Chg [w.heap.size+2] w8 _:=Chg.trans (Chg.alloc (Chg.putRow Tc (w.heap.size+2) 0 _ (.inl (Vm rfl))) _) (Chg.mono cb (fun _ h=>absurd h Vn))));(first |(have rRb:=cb.keep rR Vn)|(have rRb:=cb.keep rRc Vn)|(have rRb:=Chg.keep ((Chg.refl [] _).alloc _ |>.trans cb) rR Vn)|(have rRb:=Chg.keep ((Chg.refl [] _).alloc _ |>.trans cb) rRc Vn)|(have rRb:=cb.keep (Xd rR rfl) Vn)|(have rRb:=cb.keep (Xd rRc rfl) Vn)))
   |(go_at_call 181;refine (Qa8 _ _ _ _ x.h _).mono ?_;rintro e w' ⟨rfl,cc⟩;(first |(have Tc:Chg [w.heap.size+2] w8 _:=Chg.trans ((Chg.refl [w.heap.size+2] w8).drew) (Chg.mono cc (fun _ h=>absurd h Vn)))|(have Tc:Chg [w.heap.size+2] w8 _:=Chg.trans (Chg.alloc ((Chg.refl [w.heap.size+2] w8).drew) _) (Chg.mono cc (fun _ h=>absurd h Vn)))|(have Tc:Chg [w.heap.size+2] w8 _:=Chg.trans (Chg.putRow ((Chg.refl [w.heap.size+2] w8).drew) (w.heap.size+2) 0 _ (.inl (Vm rfl))) (Chg.mono cc (fun _ h=>absurd h Vn)))|(have Tc:Chg [w.heap.size+2] w8 _:=Chg.trans (Chg.putRow (Chg.alloc ((Chg.refl [w.heap.size+2] w8).drew) _) (w.heap.size+2) 0 _ (.inl (Vm rfl))) (Chg.mono cc (fun _ h=>absurd h Vn)))|(have Tc:Chg [w.heap.size+2] w8 _:=Chg.trans (Chg.alloc (Chg.putRow ((Chg.refl [w.heap.size+2] w8).drew) (w.heap.size+2) 0 _ (.inl (Vm rfl))) _) (Chg.mono cc (fun _ h=>absurd h Vn)))|(have Tc:Chg [w.heap.size+2] w8 _:=Chg.trans Tb (Chg.mono cc (fun _ h=>absurd h Vn)))|(have Tc:Chg [w.heap.size+2] w8 _:=Chg.trans (Chg.alloc Tb _) (Chg.mono cc (fun _ h=>absurd h Vn)))|(have Tc:Chg [w.heap.size+2] w8 _:=Chg.trans (Chg.putRow Tb (w.heap.size+2) 0 _ (.inl (Vm rfl))) (Chg.mono cc (fun _ h=>absurd h Vn)))|(have Tc:Chg [w.heap.size+2] w8 _:=Chg.trans (Chg.putRow (Chg.alloc Tb _) (w.heap.size+2) 0 _ (.inl (Vm rfl))) (Chg.mono cc (fun _ h=>absurd h Vn)))|(have Tc:Chg [w.heap.size+2] w8 _:=Chg.trans (Chg.alloc (Chg.putRow Tb (w.heap.size+2) 0 _ (.inl (Vm rfl))) _) (Chg.mono cc (fun _ h=>absurd h Vn))));(first |(have rRc:=cc.keep rR Vn)|(have rRc:=cc.keep rRb Vn)|(have rRc:=Chg.keep ((Chg.refl [] _).alloc _ |>.trans cc) rR Vn)|(have rRc:=Chg.keep ((Chg.refl [] _).alloc _ |>.trans cc) rRb Vn)|(have rRc:=cc.keep (Xd rR rfl) Vn)|(have rRc:=cc.keep (Xd rRb rfl) Vn))))
 all_goals
  go_wp2_with fail
  refine bodyPost_ret (Xx (by rfl) _ _ (w.heap.size+2) (XG ((x.setOw c).setSh 0#8)) (0,0) (by rfl) (by first |(simp [rRc];done)|(simp [rRb];done)) _ _ (by rfl) (by rfl)) (by rfl) ?_
  first
   |exact En3r.L1 C8 Tb oR (by omega)
   |exact En3r.L1p C8 Tb oR (by omega)
   |exact En3r.L2 C8 Tb oR (by omega)
   |exact En3r.L1 C8 Tc oR (by omega)
   |exact En3r.L1p C8 Tc oR (by omega)
   |exact En3r.L2 C8 Tc oR (by omega)
   |exact En3r.L3 C8 Tb oR (by omega) cb
   |exact En3r.L3 C8 Tc oR (by omega) cb
   |exact En3r.L1 C8 (Chg.drew (Chg.refl [w.heap.size+2] w8)) oR (by omega)
   |exact En3r.L1p C8 (Chg.drew (Chg.refl [w.heap.size+2] w8)) oR (by omega)
   |exact En3r.L2 C8 (Chg.drew (Chg.refl [w.heap.size+2] w8)) oR (by omega)):p:=h
theorem Tz7 {p:Prop} (h:p:=by
 have o8:=old r8
 have hsl:=Qct (P:=Tryz.prog) Qbm (some ⟨p.ub,o',none⟩) rest.length p.uc Cz26
 have HSL:=Vh hsl
 clear hcell l7 tl
 have hcell:(sq Yz L [])[i*3]? =some (.slice (some ⟨p.ub,o',none⟩) (rest.length+1) p.uc):=HCELL.out
 go_region
 all_goals
  have c9:Chg [z.po] w8 (w8.setCell ⟨z.po,i*3,none⟩ (.slice (Y2 12 (some ⟨p.ub,o',none⟩) p.uc) rest.length (p.uc-1))).drew:=((Chg.refl [z.po] w8).setCell _ _ _ (.inl (by simp))).drew
  have n6:=M8.out.1.ne6
  have rS9:=c9.keep rS (by simpa using n6.1.2.2.2.1)
  have rE9:=c9.keep rE (by simpa using (Ne.symm n6.2.2.2.2.1))
  have r59:=c9.keep r5 (by simp;intro e;exact NB5.out Cz12)
  have r89:=c9.keep r8 (by simp;intro e;exact NB8.out Cz12)
  have C68:=C66.out.trans (C7.out.trans C8.out)
  obtain ⟨_,p',hpg,hr⟩:=M8.out.1.queue_up (v:=.bool true) (e:=.returned (.bool true)) (ys:=rest) HY.out ⟨rfl,p.ub,Y2 12 (some ⟨p.ub,o',none⟩) p.uc,p.uc-1,by simp [rQ],by have h1:=(((HV.out.keep C68 (by simp)).keepN c9 (by simp)).tail Ms.len);rw [HAE.out] at h1;exact h1,c9.mono Cz18,.inl rfl⟩
  have M9:=Vh (M8.out.trans hr)
  have HR9:=Vh hr
  have NSE:=Vh n6.1.2.2.2.2
  clear hr c9 n6 C68 rS rQ rE r5 r8 oS oQ oE o5 o8 hsl hcell
  generalize (w8.setCell ⟨z.po,i*3,none⟩ (.slice (Y2 12 (some ⟨p.ub,o',none⟩) p.uc) rest.length (p.uc-1))).drew=w9 at rS9 rE9 r59 r89 M9 HR9 ⊢
  have oS:=old rS9
  have oE:=old rE9
  have o5:=old r59
  have o8:=old r89
  have q0:=fun t=>Jd HE.out z.er t
  have q1:=fun t f=>YW En.len r9.1 HE.out z.er t f
  have q2:∀t f,Yx (some (.cells (sq En.enc en z.er) t f)) (j*15) (ec r9.1)=some (.cells (sq En.enc (en.set j r9.1) z.er) t f):=q1
  clear q1
  go_wp2_with fail
  go_region
  all_goals
   have c10:Chg [z.en] w9 (putRow w9.drew z.en (j*15) (ec r9.1)):=((Chg.refl [z.en] w9).drew).putRow _ _ _ (.inl (by simp))
   have h10:(putRow w9.drew z.en (j*15) (ec r9.1)).heap[z.en]? =some (.cells (sq En.enc (en.set j r9.1) z.er) 117 (0,0)):=by
    rw [Qb _ _ _ _ _ (by rw [Qm,rE9,QL];exact q0 _),if_pos rfl,Qm,rE9]
    exact q2 _ _
   have rS10:=c10.keep rS9 (by simpa using NSE.out)
   have hr2:=HR9.out.1.other c10 h10 Cz14
   have M10:=Vh (M9.out.trans hr2)
   have HR2:=Vh hr2
   clear c10 h10 hr2 q0 q2 rS9 rE9 r59 r89 oS oE o5 o8
   generalize putRow w9.drew z.en (j*15) (ec r9.1)=w10 at rS10 M10 HR2 ⊢
   have oS:=old rS10
   have hold:∀k∈z.all L,k<w6.heap.size:=fun k hk=>M66.out.1.old k hk
   have cc:Chg (z.all L) w7 w10:=((C8.out.mono (by simp)).trans' HR9.out.2.1 (fun k hk=>.inl hk)).trans' HR2.out.2.1 (fun k hk=>by
    rcases HR9.out.2.2 k hk with h4|h4
    ·exact .inl h4
    ·exact .inr (Nat.le_trans C8.out.size h4))
   have hS:=S7.out.chg cc (by intro a ha hm;have:=AA7.out a ha;have:=hold _ hm;omega)
   have hAA:0<r9.2.length→∀a,A7=some a→a.block∉z.all (L.set i (p',⟨s0,rest,an0,dn0⟩))∧a.block<w10.heap.size:=by
    intro hn a ha
    have hlt:a.block<w7.heap.size:=by
     rcases S7.out.2 with h4|⟨b',o2,c2,t2,f2,he2,hb2,_⟩
     ·first |omega|(simp at h4;rw [h4] at hn;simp at hn)
     ·rw [ha] at he2
      injection he2 with he2
      subst he2
      exact ZS hb2
    refine ⟨fun hm=>?_,Nat.lt_of_lt_of_le hlt cc.size⟩
    rcases HR9.out.2.2 _ hm with h4|h4
    ·have:=AA7.out a ha;have:=hold _ h4;omega
    ·have:=C8.out.size;omega
   have hps:ports (L.set i (p',⟨s0,rest,an0,dn0⟩))=(ports L).set i ⟨s0,rest,an0,dn0⟩:=ZQ _ _ _
   have hsn:=Qa9 A7 r9.2.length c7 r9.2 w10 M10.out.1 rfl hS hAA HTO.out M (by
    intro y hy
    rw [hps] at hy
    rcases List.mem_or_eq_of_mem_set hy with h1|rfl
    ·exact HMM.out y h1
    ·have h2:=HMM.out _ (List.mem_of_getElem? (Jq HY.out));exact h2) HMN.out
   have HSN:=Vh hsn
   have HPS:=Vh hps
   clear hsn hS hAA hps cc hold
   go_wp2_with fail
   refine HSN.out.mono ?_
   rintro r w11 ⟨rfl,L2,m11,hp11⟩
   have M11:=Vh (M10.out.trans m11)
   have HP11:=Vh hp11
   clear m11 hp11
   go_wp2_with fail
   go_ret
   exact ⟨rfl,z,L2,rfl,M11.out,by rw [HP11.out,HPS.out]⟩):p:=h
theorem Tz8 {p:Prop} (h:p:=by
 have oQ:=old rQ
 have oE:=old rE
 have o5:=old r5
 have o8:=old r8
 have hsl:=Qct (P:=Tryz.prog) Qbm (some ⟨p.nb,o',none⟩) rest.length p.nc Cz26
 have HSL:=Vh hsl
 clear hcell l7 tl
 have hcell:(sq Yz L [])[i*3+1]? =some (.slice (some ⟨p.nb,o',none⟩) (rest.length+1) p.nc):=HCELL.out
 go_wp2_with fail
 go_region
 all_goals
  have c9:Chg [z.po] w8 (w8.setCell ⟨z.po,i*3+1,none⟩ (.slice (Y2 12 (some ⟨p.nb,o',none⟩) p.nc) rest.length (p.nc-1))).drew:=((Chg.refl [z.po] w8).setCell _ _ _ (.inl (by simp))).drew
  have n6:=M8.out.1.ne6
  have rS9:=c9.keep rS (by simpa using n6.1.2.2.2.1)
  have rE9:=c9.keep rE (by simpa using (Ne.symm n6.2.2.2.2.1))
  have r59:=c9.keep r5 (by simp;intro e;exact NB5.out Cz12)
  have r89:=c9.keep r8 (by simp;intro e;exact NB8.out Cz12)
  obtain ⟨_,p',hpg,hr⟩:=M8.out.1.queue_an (v:=.bool true) (e:=.returned (.bool true)) (ys:=rest) HY.out ⟨rfl,p.nb,Y2 12 (some ⟨p.nb,o',none⟩) p.nc,p.nc-1,by simp [rQ],by have h1:=(((HV.out.keep C68.out (by simp)).keepN c9 (by simp)).tail Ms.len);rw [HAE.out] at h1;exact h1,c9.mono Cz18,.inl rfl⟩
  have M9:=Vh (M8.out.trans hr)
  have HR9:=Vh hr
  have NSE:=Vh n6.1.2.2.2.2
  clear hr c9 n6 rS rQ rE r5 r8 oS oQ oE o5 o8 hsl hcell
  generalize (w8.setCell ⟨z.po,i*3+1,none⟩ (.slice (Y2 12 (some ⟨p.nb,o',none⟩) p.nc) rest.length (p.nc-1))).drew=w9 at rS9 rE9 r59 r89 M9 HR9 ⊢
  have oS:=old rS9
  have oE:=old rE9
  have o5:=old r59
  have o8:=old r89
  have q0:=fun t=>Jd HE.out z.er t
  have q1:=fun t f=>YW En.len r9.1 HE.out z.er t f
  have q2:∀t f,Yx (some (.cells (sq En.enc en z.er) t f)) (j*15) (ec r9.1)=some (.cells (sq En.enc (en.set j r9.1) z.er) t f):=q1
  clear q1
  go_wp2_with fail
  go_region
  all_goals
   have c10:Chg [z.en] w9 (putRow w9.drew z.en (j*15) (ec r9.1)):=((Chg.refl [z.en] w9).drew).putRow _ _ _ (.inl (by simp))
   have h10:(putRow w9.drew z.en (j*15) (ec r9.1)).heap[z.en]? =some (.cells (sq En.enc (en.set j r9.1) z.er) 117 (0,0)):=by
    rw [Qb _ _ _ _ _ (by rw [Qm,rE9,QL];exact q0 _),if_pos rfl,Qm,rE9]
    exact q2 _ _
   have rS10:=c10.keep rS9 (by simpa using NSE.out)
   have hr2:=HR9.out.1.other c10 h10 Cz14
   have M10:=Vh (M9.out.trans hr2)
   have HR2:=Vh hr2
   clear c10 h10 hr2 q0 q2 rS9 rE9 r59 r89 oS oE o5 o8
   generalize putRow w9.drew z.en (j*15) (ec r9.1)=w10 at rS10 M10 HR2 ⊢
   have oS:=old rS10
   have hold:∀k∈z.all L,k<w.heap.size:=fun k hk=>HH.out.old k hk
   have cc:Chg (z.all L) w8 w10:=HR9.out.2.1.trans' HR2.out.2.1 (fun k hk=>HR9.out.2.2 k hk)
   have hS:=S8.out.chg cc (by intro a ha hm;have:=AA8.out a ha;have:=hold _ hm;omega)
   have hAA:0<r9.2.length→∀a,A7=some a→a.block∉z.all (L.set i (p',⟨s0,up0,rest,dn0⟩))∧a.block<w10.heap.size:=by
    intro hn a ha
    have hlt:a.block<w8.heap.size:=by
     rcases S8.out.2 with h4|⟨b',o2,c2,t2,f2,he2,hb2,_⟩
     ·first |omega|(simp at h4;rw [h4] at hn;simp at hn)
     ·rw [ha] at he2
      injection he2 with he2
      subst he2
      exact ZS hb2
    refine ⟨fun hm=>?_,Nat.lt_of_lt_of_le hlt cc.size⟩
    rcases HR9.out.2.2 _ hm with h4|h4
    ·have:=AA8.out a ha;have:=hold _ h4;omega
    ·omega
   have hps:ports (L.set i (p',⟨s0,up0,rest,dn0⟩))=(ports L).set i ⟨s0,up0,rest,dn0⟩:=ZQ _ _ _
   have hsn:=Qa9 A7 r9.2.length c7 r9.2 w10 M10.out.1 rfl hS hAA HTO.out M (by
    intro y hy
    rw [hps] at hy
    rcases List.mem_or_eq_of_mem_set hy with h1|rfl
    ·exact HMM.out y h1
    ·have h2:=HMM.out _ (List.mem_of_getElem? (Jq HY.out));exact h2) HMN.out
   have HSN:=Vh hsn
   have HPS:=Vh hps
   clear hsn hS hAA hps cc hold
   go_wp2_with fail
   refine HSN.out.mono ?_
   rintro r w11 ⟨rfl,L2,m11,hp11⟩
   have M11:=Vh (M10.out.trans m11)
   have HP11:=Vh hp11
   clear m11 hp11
   go_wp2_with fail
   go_ret
   exact ⟨rfl,z,L2,rfl,M11.out,by rw [HP11.out,HPS.out]⟩):p:=h
theorem Tz9 {p:Prop} (h:p:=by
 have c9:Chg [z.po] w8 (w8.setCell ⟨z.po,i*3,none⟩ (.slice (Y2 12 (some ⟨p.ub,o',none⟩) p.uc) rest.length (p.uc-1))).drew:=((Chg.refl [z.po] w8).setCell _ _ _ (.inl (by simp))).drew
 have n6:=M8.out.1.ne6
 have rS9:=c9.keep rS (by simpa using n6.1.2.2.2.1)
 have rE9:=c9.keep rE (by simpa using (Ne.symm n6.2.2.2.2.1))
 have r59:=c9.keep r5 (by simp;intro e;exact NB5.out Cz12)
 have r89:=c9.keep r8 (by simp;intro e;exact NB8.out Cz12)
 have C68:=C66.out.trans (C7.out.trans C8.out)
 obtain ⟨_,p',hpg,hr⟩:=M8.out.1.queue_up (v:=.bool true) (e:=.returned (.bool true)) (ys:=rest) HY.out ⟨rfl,p.ub,Y2 12 (some ⟨p.ub,o',none⟩) p.uc,p.uc-1,by simp [rQ],by have h1:=(((HV.out.keep C68 (by simp)).keepN c9 (by simp)).tail Ms.len);rw [HAE.out] at h1;exact h1,c9.mono Cz18,.inl rfl⟩
 have M9:=Vh (M8.out.trans hr)
 have HR9:=Vh hr
 have NSE:=Vh n6.1.2.2.2.2
 clear hr c9 n6 C68 rS rQ rE r5 r8 oS oQ oE o5 o8 hsl hcell
 generalize (w8.setCell ⟨z.po,i*3,none⟩ (.slice (Y2 12 (some ⟨p.ub,o',none⟩) p.uc) rest.length (p.uc-1))).drew=w9 at rS9 rE9 r59 r89 M9 HR9 ⊢
 have oS:=old rS9
 have oE:=old rE9
 have o5:=old r59
 have o8:=old r89
 have q0:=fun t=>Jd HE.out z.er t
 have q1:=fun t f=>YW En.len r9.1 HE.out z.er t f
 have q2:∀t f,Yx (some (.cells (sq En.enc en z.er) t f)) (j*15) (ec r9.1)=some (.cells (sq En.enc (en.set j r9.1) z.er) t f):=q1
 clear q1
 go_wp2_with fail
 go_region
 all_goals
  have c10:Chg [z.en] w9 (putRow w9.drew z.en (j*15) (ec r9.1)):=((Chg.refl [z.en] w9).drew).putRow _ _ _ (.inl (by simp))
  have h10:(putRow w9.drew z.en (j*15) (ec r9.1)).heap[z.en]? =some (.cells (sq En.enc (en.set j r9.1) z.er) 117 (0,0)):=by
   rw [Qb _ _ _ _ _ (by rw [Qm,rE9,QL];exact q0 _),if_pos rfl,Qm,rE9]
   exact q2 _ _
  have rS10:=c10.keep rS9 (by simpa using NSE.out)
  have hr2:=HR9.out.1.other c10 h10 Cz14
  have M10:=Vh (M9.out.trans hr2)
  have HR2:=Vh hr2
  clear c10 h10 hr2 q0 q2 rS9 rE9 r59 r89 oS oE o5 o8
  generalize putRow w9.drew z.en (j*15) (ec r9.1)=w10 at rS10 M10 HR2 ⊢
  have oS:=old rS10
  have hold:∀k∈z.all L,k<w6.heap.size:=fun k hk=>M66.out.1.old k hk
  have cc:Chg (z.all L) w7 w10:=((C8.out.mono (by simp)).trans' HR9.out.2.1 (fun k hk=>.inl hk)).trans' HR2.out.2.1 (fun k hk=>by
   rcases HR9.out.2.2 k hk with h4|h4
   ·exact .inl h4
   ·exact .inr (Nat.le_trans C8.out.size h4))
  have hS:=S7.out.chg cc (by intro a ha hm;have:=AA7.out a ha;have:=hold _ hm;omega)
  have hAA:0<r9.2.length→∀a,A7=some a→a.block∉z.all (L.set i (p',⟨s0,rest,an0,dn0⟩))∧a.block<w10.heap.size:=by
   intro hn a ha
   have hlt:a.block<w7.heap.size:=by
    rcases S7.out.2 with h4|⟨b',o2,c2,t2,f2,he2,hb2,_⟩
    ·first |omega|(simp at h4;rw [h4] at hn;simp at hn)
    ·rw [ha] at he2
     injection he2 with he2
     subst he2
     exact ZS hb2
   refine ⟨fun hm=>?_,Nat.lt_of_lt_of_le hlt cc.size⟩
   rcases HR9.out.2.2 _ hm with h4|h4
   ·have:=AA7.out a ha;have:=hold _ h4;omega
   ·have:=C8.out.size;omega
  have hps:ports (L.set i (p',⟨s0,rest,an0,dn0⟩))=(ports L).set i ⟨s0,rest,an0,dn0⟩:=ZQ _ _ _
  have hsn:=Qa9 A7 r9.2.length c7 r9.2 w10 M10.out.1 rfl hS hAA HTO.out M (by
   intro y hy
   rw [hps] at hy
   rcases List.mem_or_eq_of_mem_set hy with h1|rfl
   ·exact HMM.out y h1
   ·have h2:=HMM.out _ (List.mem_of_getElem? (Jq HY.out));exact h2) HMN.out
  have HSN:=Vh hsn
  have HPS:=Vh hps
  clear hsn hS hAA hps cc hold
  go_wp2_with fail
  refine HSN.out.mono ?_
  rintro r w11 ⟨rfl,L2,m11,hp11⟩
  have M11:=Vh (M10.out.trans m11)
  have HP11:=Vh hp11
  clear m11 hp11
  go_wp2_with fail
  go_ret
  exact ⟨rfl,z,L2,rfl,M11.out,by rw [HP11.out,HPS.out]⟩):p:=h
theorem Tz10 {p:Prop} (h:p:=by
 have c9:Chg [z.po] w8 (w8.setCell ⟨z.po,i*3+1,none⟩ (.slice (Y2 12 (some ⟨p.nb,o',none⟩) p.nc) rest.length (p.nc-1))).drew:=((Chg.refl [z.po] w8).setCell _ _ _ (.inl (by simp))).drew
 have n6:=M8.out.1.ne6
 have rS9:=c9.keep rS (by simpa using n6.1.2.2.2.1)
 have rE9:=c9.keep rE (by simpa using (Ne.symm n6.2.2.2.2.1))
 have r59:=c9.keep r5 (by simp;intro e;exact NB5.out Cz12)
 have r89:=c9.keep r8 (by simp;intro e;exact NB8.out Cz12)
 obtain ⟨_,p',hpg,hr⟩:=M8.out.1.queue_an (v:=.bool true) (e:=.returned (.bool true)) (ys:=rest) HY.out ⟨rfl,p.nb,Y2 12 (some ⟨p.nb,o',none⟩) p.nc,p.nc-1,by simp [rQ],by have h1:=(((HV.out.keep C68.out (by simp)).keepN c9 (by simp)).tail Ms.len);rw [HAE.out] at h1;exact h1,c9.mono Cz18,.inl rfl⟩
 have M9:=Vh (M8.out.trans hr)
 have HR9:=Vh hr
 have NSE:=Vh n6.1.2.2.2.2
 clear hr c9 n6 rS rQ rE r5 r8 oS oQ oE o5 o8 hsl hcell
 generalize (w8.setCell ⟨z.po,i*3+1,none⟩ (.slice (Y2 12 (some ⟨p.nb,o',none⟩) p.nc) rest.length (p.nc-1))).drew=w9 at rS9 rE9 r59 r89 M9 HR9 ⊢
 have oS:=old rS9
 have oE:=old rE9
 have o5:=old r59
 have o8:=old r89
 have q0:=fun t=>Jd HE.out z.er t
 have q1:=fun t f=>YW En.len r9.1 HE.out z.er t f
 have q2:∀t f,Yx (some (.cells (sq En.enc en z.er) t f)) (j*15) (ec r9.1)=some (.cells (sq En.enc (en.set j r9.1) z.er) t f):=q1
 clear q1
 go_wp2_with fail
 go_region
 all_goals
  have c10:Chg [z.en] w9 (putRow w9.drew z.en (j*15) (ec r9.1)):=((Chg.refl [z.en] w9).drew).putRow _ _ _ (.inl (by simp))
  have h10:(putRow w9.drew z.en (j*15) (ec r9.1)).heap[z.en]? =some (.cells (sq En.enc (en.set j r9.1) z.er) 117 (0,0)):=by
   rw [Qb _ _ _ _ _ (by rw [Qm,rE9,QL];exact q0 _),if_pos rfl,Qm,rE9]
   exact q2 _ _
  have rS10:=c10.keep rS9 (by simpa using NSE.out)
  have hr2:=HR9.out.1.other c10 h10 Cz14
  have M10:=Vh (M9.out.trans hr2)
  have HR2:=Vh hr2
  clear c10 h10 hr2 q0 q2 rS9 rE9 r59 r89 oS oE o5 o8
  generalize putRow w9.drew z.en (j*15) (ec r9.1)=w10 at rS10 M10 HR2 ⊢
  have oS:=old rS10
  have hold:∀k∈z.all L,k<w.heap.size:=fun k hk=>HH.out.old k hk
  have cc:Chg (z.all L) w8 w10:=HR9.out.2.1.trans' HR2.out.2.1 (fun k hk=>HR9.out.2.2 k hk)
  have hS:=S8.out.chg cc (by intro a ha hm;have:=AA8.out a ha;have:=hold _ hm;omega)
  have hAA:0<r9.2.length→∀a,A7=some a→a.block∉z.all (L.set i (p',⟨s0,up0,rest,dn0⟩))∧a.block<w10.heap.size:=by
   intro hn a ha
   have hlt:a.block<w8.heap.size:=by
    rcases S8.out.2 with h4|⟨b',o2,c2,t2,f2,he2,hb2,_⟩
    ·first |omega|(simp at h4;rw [h4] at hn;simp at hn)
    ·rw [ha] at he2
     injection he2 with he2
     subst he2
     exact ZS hb2
   refine ⟨fun hm=>?_,Nat.lt_of_lt_of_le hlt cc.size⟩
   rcases HR9.out.2.2 _ hm with h4|h4
   ·have:=AA8.out a ha;have:=hold _ h4;omega
   ·omega
  have hps:ports (L.set i (p',⟨s0,up0,rest,dn0⟩))=(ports L).set i ⟨s0,up0,rest,dn0⟩:=ZQ _ _ _
  have hsn:=Qa9 A7 r9.2.length c7 r9.2 w10 M10.out.1 rfl hS hAA HTO.out M (by
   intro y hy
   rw [hps] at hy
   rcases List.mem_or_eq_of_mem_set hy with h1|rfl
   ·exact HMM.out y h1
   ·have h2:=HMM.out _ (List.mem_of_getElem? (Jq HY.out));exact h2) HMN.out
  have HSN:=Vh hsn
  have HPS:=Vh hps
  clear hsn hS hAA hps cc hold
  go_wp2_with fail
  refine HSN.out.mono ?_
  rintro r w11 ⟨rfl,L2,m11,hp11⟩
  have M11:=Vh (M10.out.trans m11)
  have HP11:=Vh hp11
  clear m11 hp11
  go_wp2_with fail
  go_ret
  exact ⟨rfl,z,L2,rfl,M11.out,by rw [HP11.out,HPS.out]⟩):p:=h
theorem Tz11 {p:Prop} (h:p:=by
 go_region_held3 (fun w'=>w'.heap[g]? =some (.cells #[.pointer (some ⟨a,0,none⟩)] 206 (0,0))∧w'.heap[w.heap.size]? =some (.cells (msc m) 38 (0,0))) (exact ⟨Chg.keep (l:=[]) (w:=w3) Cz2 rG (by simp),Chg.keep (l:=[]) (w:=w3) Cz2 rM (by simp)⟩)
  (first
   |(go_at_call 130;refine (hf _ (H.out.keep Cz21)).mono ?_;rintro e w4 ⟨rfl,c4⟩;(first |(have cO:Chg [] w3 w4:=Chg.trans (Chg.drew (Chg.refl [] w3)) c4)|(have cO:Chg [] w3 w4:=Chg.trans (Chg.alloc (Chg.drew (Chg.refl [] w3)) _) c4));(first |(have rZ:w4.heap[w3.heap.size]? =some (.cells (slc sltZ) 54 (0,0)):=c4.keep (snew_at w3.drew _) Vn)|(have rZ:True:=trivial))))
 all_goals
  go_wp2_with fail
  go_meet
  case rel=>
   first
    |exact ⟨_,rfl,rfl,by simp,cO.alloc _,cO.size⟩
    |exact ⟨w3.heap.size,rfl,rfl,Qfr rZ,cO.putRow _ _ _ (.inr (Nat.le_refl _)),Nat.le_refl _⟩):p:=h
theorem Tz12 {p:Prop} (h:p:=by
 have hn:tb 12 x.st=10:=by rw [z];rfl
 have h00:x.st≠0:=by omega
 clear hst z
 have hxl:=hx0 h00
 rw [hn]
 refine Calls.mono ?_ (fun _ _ h=>.inr ⟨by omega,h⟩)
 clear hn hx0 h00
 rw [show lsX S N s li x 10=Qcm s li from rfl]
 clear hx
 go_enter Tryz.func187,Tryz.ntmps187
 try dsimp only [List.append]
 go_upto_region 6 with fail
 have cb:=(Chg.refl [] w).alloc (.cells (slc x) 197 (0,0))
 have rX:(w.alloc (.cells (slc x) 197 (0,0))).heap[w.heap.size]? =some (.cells (slc x) 197 (0,0)):=by simp
 have nX:=H.out.new2 (k:=w.heap.size) (Nat.le_refl _)
 have mX:=H.out.new3 (k:=w.heap.size) (Nat.le_refl _)
 replace H:=Vh (H.out.keep cb)
 replace CW:=Vh (CW.out.trans (Zp cb))
 clear cb
 generalize w.heap.size=pX at rX nX mX ⊢
 generalize w.alloc (.cells (slc x) 197 (0,0))=w1 at rX H CW ⊢
 have rG:=H.out.2.1
 have oX:=old rX
 go_wp2_with fail
 refine (Qbh H.out li).mono ?_
 rintro e w4 ⟨rfl,h4,c4⟩
 replace H:=Vh h4
 replace CW:=Vh (CW.out.trans c4)
 replace rX:=c4.keep rX nX
 clear h4 c4
 go_wp2_with fail
 refine (YG 6 li x false hxl _).mono ?_
 rintro e w9 ⟨A,n,rfl,h1,c9⟩
 go_wp2_with fail
 go_ret2
 exact RgRet.ms (f:=fun v=>.tuple #[v,.int .i64 0]) H.out CW.out h1 c9):p:=h
theorem Tz13 {p:Prop} (h:p:=by
 have he:=fun W=>Ze l [0,0,0,0,0,0,0,0] h8 rfl W
 all_goals cases di<;>cases ke
 all_goals
  go_enter Tryz.func176,Tryz.ntmps176
  try dsimp only [List.append]
  go_wp2_with (first
   |(go_at_call 177;refine (Y9 _ _).mono ?_;rintro e w' ⟨rfl,rfl⟩;rw [a1])
   |(go_at_call 184;refine (X7 _ _).mono ?_;rintro e w' ⟨rfl,rfl⟩;rw [a2])
   |(go_at_call 185;refine (YF _ _).mono ?_;rintro e w' ⟨rfl,rfl⟩;rw [a3]))
  go_ret
  exact ⟨by simp,(Chg.refl _ _).alloc _⟩):p:=h
theorem Tz14 {p:Prop} (h:p:=by
 go_enter Tryz.func176,Tryz.ntmps176
 try dsimp only [List.append]
 go_wp2_with (first
  |(go_at_call 177;refine (Y9 _ _).mono ?_;rintro e w' ⟨rfl,rfl⟩;rw [a1])
  |(go_at_call 184;refine (X7 _ _).mono ?_;rintro e w' ⟨rfl,rfl⟩;rw [a2])
  |(go_at_call 185;refine (YF _ _).mono ?_;rintro e w' ⟨rfl,rfl⟩;rw [a3]))
 go_ret
 exact ⟨by simp,(Chg.refl _ _).alloc _⟩):p:=h
theorem Tz15 {p:Prop} (h:p:=by
 have z2:(x.st==2)=false:=by simp [z]
 have z3:(x.st==3)=false:=by simp [z]
 have z7:(x.st==7)=false:=by simp [z]
 have z9:(x.st==9)=false:=by simp [z]
 have hn:tb 13 x.st=0:=by rw [z];rfl
 have h00:x.st≠0:=by omega
 clear hst z
 rw [hn]
 refine Calls.mono ?_ (fun _ _ h=>.inl ⟨rfl,h⟩)
 clear hn hx hx0
 go_enter Tryz.func188,Tryz.ntmps188
 try dsimp only [List.append]
 go_wp2_with fail
 go_ret2
 exact RgRet.nil (f:=fun v=>.tuple #[v,.int .i64 16]) (H.out.keep ((Chg.refl [] w).alloc _)) (Zp ((Chg.refl [] w).alloc _))):p:=h
theorem Tz16 {p:Prop} (h:p:=by
 clear hk hxl
 generalize Qn s.1 m.li=x at hsl hls hr0 hr1
 go_enter Tryz.func117,Tryz.ntmps117
 try dsimp only [List.append]
 go_wp2_with fail
 have cb:=(Chg.refl [] w).alloc (.cells (msc m) 38 (0,0))
 have rM:(w.alloc (.cells (msc m) 38 (0,0))).heap[w.heap.size]? =some (.cells (msc m) 38 (0,0)):=by simp
 have nM:=H.out.new2 (k:=w.heap.size) (Nat.le_refl _)
 have mM:=H.out.new3 (k:=w.heap.size) (Nat.le_refl _)
 replace H:=Vh (H.out.keep cb)
 replace CW:=Vh (CW.out.trans (Zp cb))
 clear cb
 generalize w.heap.size=pM at rM nM mM ⊢
 generalize w.alloc (.cells (msc m) 38 (0,0))=w1 at rM H CW ⊢
 have rG:=H.out.2.1
 have oM:=old rM
 refine (X2 m _ g3 w1).mono ?_
 rintro e w2 ⟨rfl,c2⟩
 replace H:=Vh (H.out.keep c2)
 replace CW:=Vh (CW.out.trans (Zp c2))
 replace rM:=c2.keep rM Vn
 clear c2
 have rG:=H.out.2.1
 have oM2:=old rM
 go_wp2_with (go_at_call 185;refine (X1 _ _ g4 _).mono ?_;rintro e w' ⟨rfl,rfl⟩)
 refine (hsl w2 H.out).mono ?_
 clear hsl
 rintro e w3 ⟨rfl,c3⟩
 replace H:=Vh (H.out.keep c3)
 replace CW:=Vh (CW.out.trans (Zp c3))
 replace rM:=c3.keep rM Vn
 clear c3
 have rG:=H.out.2.1
 go_upto_region 7 with fail
 have cb:=(Chg.refl [] w3).alloc (.cells (slc x) 197 (0,0))
 have rX:(w3.alloc (.cells (slc x) 197 (0,0))).heap[w3.heap.size]? =some (.cells (slc x) 197 (0,0)):=by simp
 have nX:=H.out.new2 (k:=w3.heap.size) (Nat.le_refl _)
 have mX:=H.out.new3 (k:=w3.heap.size) (Nat.le_refl _)
 have uX:=CW.out.size
 replace H:=Vh (H.out.keep cb)
 replace CW:=Vh (CW.out.trans (Zp cb))
 replace rM:=cb.keep rM Vn
 clear cb
 generalize w3.heap.size=pX at rX nX mX uX ⊢
 generalize w3.alloc (.cells (slc x) 197 (0,0))=w5 at rX H CW rM ⊢
 have rG:=H.out.2.1
 have oX:=old rX
 have oM5:=old rM
 go_wp2_with fail
 refine (hls w5 H.out).mono ?_
 clear hls
 rintro e w6 (⟨hz,A,n,rfl,h1,h2,h3⟩|⟨hz,A,n,rfl,h1,h2,h3⟩)
 ·go_wp2_with fail
  rw [hr0 hz]
  go_ret2
  exact ⟨A,n,rfl,h1.from CW.out.size,h2,CW.out.trans h3⟩
 ·go_wp2_with fail
  rw [hr1 hz]
  go_ret2
  exact ⟨A,n,rfl,h1.from CW.out.size,h2,CW.out.trans h3⟩):p:=h
theorem Tz17 {p:Prop} (h:p:=by
 try dsimp only [List.append]
 go_wp2_with fail
 refine XK (w:=w) (b1:=w.heap.size) (x1:=.cells (ec (x)) 56 (0,0)) (b2:=w.heap.size+1) (x2:=.cells (msc m) 38 (0,0)) (b3:=w.heap.size+2) (x3:=.cells (ec (enZ)) 56 (0,0)) Cz1 (by simp [*]) (by simp [*]) (by simp [*]) fun w1 C1 rE rM rR=>?_
 have oE:=old rE
 have oM:=old rM
 have oR:=old rR
 have o0:=h0.chg C1
 go_region_held3 (fun w'=>w'.heap[w.heap.size]? =some (.cells (ec (x)) 56 (0,0))∧w'.heap[w.heap.size+1]? =some (.cells (msc m) 38 (0,0))) (first |exact ⟨rE,rM⟩|exact ⟨c2.keep rE (by simp),c2.keep rM (by simp)⟩|exact ⟨c2.keep (by simp [*]) (by simp),c2.keep (by simp [*]) (by simp)⟩|simp [*])
  (first
   |(go_at_call 164;refine (Ye _ _).mono ?_;rintro e w' ⟨rfl,rfl⟩)
   |(go_at_call 227;refine (Qej _ _ _ _ _ _ ?_).mono ?_;exact Cz13;rintro e w' ⟨A2,n2,rfl,hs2,hA2,c2⟩;(have hA3:∀a,A2=some a→w1.heap.size≤a.block:=(by simpa using hA2));(first |(have rR2:=c2.keep rR (by simp))|(have rR2:=c2.keep (x:=.cells (ec (x)) 56 (0,0)) (k:=w.heap.size+2) (by simp [rR]) (by simp)))))
 all_goals
  go_wp2_with fail
  refine bodyPost_ret (v:=.tuple #[.agg (ec ((Y4 x c m (bitM x.ow) 13).1)),.slice A2 (Y4 x c m (bitM x.ow) 13).2.length n2]) ?_ (by rfl) ?_
  ·exact Xy (by rfl) _ _ (w.heap.size+2) _ (0,0) (by rfl) Cz15 _ (by rfl)
  refine ⟨A2,n2,rfl,?_,fun a ha=>Nat.le_trans C1.size (hA3 a ha),by (repeat' (first |exact Chg.refl _ _|assumption|exact Chg.refl [] _|refine Chg.drew ?_|refine Chg.drewN ?_ _|refine Chg.alloc ?_ _|refine Chg.putRow ?_ _ _ _ (.inr Cz4)|refine Chg.setCell ?_ _ _ _ (.inr Cz4)|refine Chg.trans ?_ c2))⟩
  first
   |exact hs2
   |exact hs2.chg ((Chg.refl [w.heap.size+2] _).putRow _ _ _ (.inl (by simp))) Cz7
   |exact hs2.chg c3 (by simp)
   |exact (hs2.chg c3 (by simp)).chg ((Chg.refl [w.heap.size+2] _).putRow _ _ _ (.inl (by simp))) Cz7):p:=h
theorem Tz18 {p:Prop} (h:p:=by
 have jg:=i1 p.g (by simp)
 have ja:=i1 p.a (by simp)
 have jb:=i1 p.b (by simp)
 have ju:p.ub≠z.po→p.ub≠be':=fun hb=>i1 p.ub (by simp [hb])
 have jn:p.nb≠z.po→p.nb≠be':=fun hb=>i1 p.nb (by simp [hb])
 have jd:p.db≠z.po→p.db≠be':=fun hb=>i1 p.db (by simp [hb])
 rw [Yk]
 dsimp only
 refine ⟨⟨d1,d2,d3⟩,?_,?_,?_,?_,?_,?_⟩<;>omega):p:=h
theorem Tz19 {p:Prop} (h:p:=by
 have hn:tb 13 x.st=1:=by rw [z];rfl
 have h00:x.st≠0:=by omega
 clear hst z
 have hxl:=hx0 h00
 rw [hn]
 refine Calls.mono ?_ (fun _ _ h=>.inr ⟨by omega,h⟩)
 clear hn hx0 h00
 rw [show lsX S N s li x 1=setS S N s li 1 x.l x.h from rfl]
 clear hx
 go_enter Tryz.func188,Tryz.ntmps188
 try dsimp only [List.append]
 go_upto_region 4 with fail
 have cb:=(Chg.refl [] w).alloc (.cells (slc x) 197 (0,0))
 have rX:(w.alloc (.cells (slc x) 197 (0,0))).heap[w.heap.size]? =some (.cells (slc x) 197 (0,0)):=by simp
 have nX:=H.out.new2 (k:=w.heap.size) (Nat.le_refl _)
 have mX:=H.out.new3 (k:=w.heap.size) (Nat.le_refl _)
 replace H:=Vh (H.out.keep cb)
 replace CW:=Vh (CW.out.trans (Zp cb))
 clear cb
 generalize w.heap.size=pX at rX nX mX ⊢
 generalize w.alloc (.cells (slc x) 197 (0,0))=w1 at rX H CW ⊢
 have rG:=H.out.2.1
 have oX:=old rX
 have nG:=H.out.2.2.1
 go_region_held3 (fun w'=>w'.heap[g]? =some (.cells #[.pointer (some ⟨a,0,none⟩)] 126 (0,0))∧w'.heap[pX]? =some (.cells (slc x) 197 (0,0))) (first |exact ⟨rG,rX⟩|exact ⟨c4.keep rG nG,c4.keep rX nX⟩)
  (first
   |(go_at_call 170;refine (Ju (H.out.keep (Chg.drew (Chg.refl [] w1))) hu li 1 x.l x.h).mono ?_;rintro e w4 ⟨rfl,h4,c4⟩))
 all_goals
  replace H:=Vh h4
  replace CW:=Vh (CW.out.trans (Chg.trans (Chg.drew (Chg.refl [a,b] w1)) c4))
  replace rX:=c4.keep rX nX
  clear h4 c4 rG
  have rG:=H.out.2.1
  go_wp2_with fail
  refine (YG 7 li x true hxl _).mono ?_
  rintro e w9 ⟨A,n,rfl,h1,c9⟩
  go_wp2_with fail
  go_ret2
  exact RgRet.ms (f:=fun v=>.tuple #[v,.int .i64 0]) H.out CW.out h1 c9):p:=h
theorem Tz20 {p:Prop} (h:p:=by
 try dsimp only [List.append]
 go_wp2_with fail
 refine ZJ (w:=w) (b1:=w.heap.size) (x1:=.cells (ec (x)) 56 (0,0)) (b2:=w.heap.size+1) (x2:=.cells (msc m) 38 (0,0)) (b3:=w.heap.size+2) (x3:=.cells (ec (enZ)) 56 (0,0)) Cz0 (by simp [*]) (by simp [*]) (by simp [*]) fun w1 C1 rE rM rR=>?_
 have oE:=old rE
 have oM:=old rM
 have oR:=old rR
 refine (Yv x _ g1 w1).mono ?_
 rintro e w3 ⟨rfl,c3⟩
 have rE3:=c3.keep rE (by simp)
 have rM3:=c3.keep rM (by simp)
 have rR3:=c3.keep rR (by simp)
 have C3:=C1.trans c3
 have o3:=ht.keep C3 (by simp)
 clear rE rM rR oE oM oR C1 c3
 have oE3:=old rE3
 have oM3:=old rM3
 have oR3:=old rR3
 go_wp2_with ((go_at_call 143;refine (YK _ _ g2 _).mono ?_;rintro e w' ⟨rfl,rfl⟩))
 refine (JJ m _ g3 w3 o3).mono ?_
 rintro e w4 ⟨rfl,c4⟩
 have rE4:=c4.keep rE3 (by simp)
 have rM4:=c4.keep rM3 (by simp)
 have rR4:=c4.keep rR3 (by simp)
 have C4:=C3.trans c4
 have o4:=ht.old0.chg C4
 clear rE3 rM3 rR3 oE3 oM3 oR3 C3 c4 o3
 have oE4:=old rE4
 have oM4:=old rM4
 have oR4:=old rR4
 go_wp2_with fail
 refine bodyPost_ret (v:=.tuple #[.agg (ec enZ),.slice none 0 0,.int .i64 1]) ?_ (by rfl) ?_
 ·exact Xw (by rfl) _ _ (w.heap.size+2) enZ (0,0) (by rfl) (by simp [rR4];try rfl) _ _ (by rfl) (by rfl)
 exact En3.err _ _ _ Cz0):p:=h
theorem Tz21 {p:Prop} (h:p:=by
 have g0:(0:Int)≤(k:Int):=by omega
 have g2:(N:Int)≤8:=by omega
 obtain ⟨b,o,rfl⟩:=HA.out.addr (by omega)
 obtain ⟨cs,t,f,hb,hcell⟩:=(HA.out.chg hc (by simp)).cell hlt
 obtain ⟨y,hy⟩:∃y,(Jb s)[k]? =some y:=⟨(Jb s)[k]'Cz17,List.getElem?_eq_getElem _⟩
 rw [List.getElem?_map,hy] at hcell
 simp only [Option.map_some] at hcell
 have rMr:=hc.keep rM2 (by simp)
 have oM:=old rMr
 have ht:xs++[⟨y,m⟩]=(Xf s m).take (k+1):=by rw [hxs,List.take_add_one];simp [Xf,hy]
 have hlen:xs.length≤8:=by rw [hxs,List.length_take];omega
 obtain ⟨be',cap',A',w3,happ,hv2,hbe2,hc2⟩:=Vec.acc (ty:=155) eltSd (hc.alloc (.cells (sc ⟨y,m⟩) 179)) (hvb.keep ((Chg.refl [] wr).alloc (.cells (sc ⟨y,m⟩) 179)) (by simp)) hbe ((H0.out.chg C2.out)) (sd_slice wr ⟨y,m⟩) (c:=1) rfl (by omega) Cz29
 have HT:=Vh ht
 have HL:=Vh (show xs.length+1=(xs++[(⟨y,m⟩:Sd)]).length by rw [List.length_append];rfl)
 have HV2:=Vh hv2
 have HB2:=Vh hbe2
 have HC2:=Vh hc2
 have hsd:=fun C h h0=>sd_lit y m C h h0
 clear hvb hc hbe hy ht hlen hv2 hbe2 hc2 hxs
 go_wp2_with fail
 go_roundw
 case rel=>exact ⟨k+1,be',cap',A',xs++[⟨y,m⟩],by omega,by go_num,HT.out,by rw [←HL.out],HC2.out,HV2.out,HB2.out⟩
 case measure=>simp [intOf];omega):p:=h
theorem Tz22 {p:Prop} (h:p:=by
 exact ⟨none,0,rfl,⟨rfl,.inl rfl⟩,by simp,by (repeat' (first |with_reducible exact Chg.refl _ _|with_reducible assumption|with_reducible refine Chg.drew ?_|with_reducible refine Chg.drewN ?_ _|with_reducible refine Chg.alloc ?_ _|with_reducible refine Chg.putRow ?_ _ _ _ (.inr ?_)|with_reducible refine Chg.setCell ?_ _ _ _ (.inr ?_)|(show _≤_;first |exact Nat.le_refl _|omega|(simp;done))))⟩):p:=h
theorem Tz23 {p:Prop} (h:p:=by
 have hn:tb 12 x.st=8:=by rw [z];rfl
 have h00:x.st≠0:=by omega
 clear hst z
 have hxl:=hx0 h00
 rw [hn]
 refine Calls.mono ?_ (fun _ _ h=>.inr ⟨by omega,h⟩)
 clear hn hx0 h00
 rw [show lsX S N s li x 8=setS S N s li 8 zl8 rfl from rfl]
 clear hx
 go_enter Tryz.func187,Tryz.ntmps187
 try dsimp only [List.append]
 go_upto_region 11 with fail
 have cb:=(Chg.refl [] w).alloc (.cells (slc x) 197 (0,0))
 have rX:(w.alloc (.cells (slc x) 197 (0,0))).heap[w.heap.size]? =some (.cells (slc x) 197 (0,0)):=by simp
 have nX:=H.out.new2 (k:=w.heap.size) (Nat.le_refl _)
 have mX:=H.out.new3 (k:=w.heap.size) (Nat.le_refl _)
 replace H:=Vh (H.out.keep cb)
 replace CW:=Vh (CW.out.trans (Zp cb))
 clear cb
 generalize w.heap.size=pX at rX nX mX ⊢
 generalize w.alloc (.cells (slc x) 197 (0,0))=w1 at rX H CW ⊢
 have rG:=H.out.2.1
 have oX:=old rX
 go_wp2_with fail
 refine (Qbf H.out hu li 8).mono ?_
 rintro e w4 ⟨rfl,h4,c4⟩
 replace H:=Vh h4
 replace CW:=Vh (CW.out.trans c4)
 replace rX:=c4.keep rX nX
 clear h4 c4
 go_wp2_with fail
 refine (YG 6 li x false hxl _).mono ?_
 rintro e w9 ⟨A,n,rfl,h1,c9⟩
 go_wp2_with fail
 go_ret2
 exact RgRet.ms (f:=fun v=>.tuple #[v,.int .i64 0]) H.out CW.out h1 c9):p:=h
theorem Tz24 {p:Prop} (h:p:=by
 have hn:tb 13 x.st=8:=by rw [z];rfl
 have h00:x.st≠0:=by omega
 clear hst z
 have hxl:=hx0 h00
 rw [hn]
 refine Calls.mono ?_ (fun _ _ h=>.inr ⟨by omega,h⟩)
 clear hn hx0 h00
 rw [show lsX S N s li x 8=setS S N s li 8 zl8 rfl from rfl]
 clear hx
 go_enter Tryz.func188,Tryz.ntmps188
 try dsimp only [List.append]
 go_upto_region 8 with fail
 have cb:=(Chg.refl [] w).alloc (.cells (slc x) 197 (0,0))
 have rX:(w.alloc (.cells (slc x) 197 (0,0))).heap[w.heap.size]? =some (.cells (slc x) 197 (0,0)):=by simp
 have nX:=H.out.new2 (k:=w.heap.size) (Nat.le_refl _)
 have mX:=H.out.new3 (k:=w.heap.size) (Nat.le_refl _)
 replace H:=Vh (H.out.keep cb)
 replace CW:=Vh (CW.out.trans (Zp cb))
 clear cb
 generalize w.heap.size=pX at rX nX mX ⊢
 generalize w.alloc (.cells (slc x) 197 (0,0))=w1 at rX H CW ⊢
 have rG:=H.out.2.1
 have oX:=old rX
 go_wp2_with fail
 refine (Qbf H.out hu li 8).mono ?_
 rintro e w4 ⟨rfl,h4,c4⟩
 replace H:=Vh h4
 replace CW:=Vh (CW.out.trans c4)
 replace rX:=c4.keep rX nX
 clear h4 c4
 go_wp2_with fail
 refine (YG 7 li x false hxl _).mono ?_
 rintro e w9 ⟨A,n,rfl,h1,c9⟩
 go_wp2_with fail
 go_ret2
 exact RgRet.ms (f:=fun v=>.tuple #[v,.int .i64 0]) H.out CW.out h1 c9):p:=h
theorem Tz25 {p:Prop} (h:p:=by
 have HH:=Vh HC
 have HF:=Vh hF
 have HW:=Vh hW
 clear hk HC hF hW
 go_enter Tryz.func15,Tryz.ntmps15
 try dsimp only [List.append]
 go_wp2_with fail
 have r0:((w.alloc (.cells (mstc x) 42)).alloc (.cells (didc ⟨0,false,msZ,0⟩) 44)).heap[w.heap.size+1]? =some (.cells (didc ⟨0,false,msZ,0⟩) 44 (0,0)):=by simp
 have C2:=Vh (((Chg.refl [] w).alloc (.cells (mstc x) 42)).alloc (.cells (didc ⟨0,false,msZ,0⟩) 44))
 have Z2:=Vh (show ((w.alloc (.cells (mstc x) 42)).alloc (.cells (didc ⟨0,false,msZ,0⟩) 44)).heap.size=w.heap.size+2 by simp)
 refine (HH.out _ C2.out).mono ?_
 rintro e w5 ⟨rfl,m5⟩
 have M5:=Vh m5
 replace r0:=m5.choose_spec.2.1.keep r0 (fun h=>by have:=HF.out _ h;omega)
 have o0:=old r0
 generalize hb:w.heap.size+1=b at r0 o0 ⊢
 have HB:=Vh hb
 clear hb m5
 go_wp2_with fail
 refine bodyPost_ret (v:=.agg (didc ⟨0,dh,msZ,0⟩)) ?_ (by rfl) ?_
 ·exact XJ (by rfl) _ _ b ⟨0,dh,msZ,0⟩ (0,0) (by rfl) Cz8
 ·refine ⟨rfl,RMTS.wrap HW.out HF.out C2.out M5.out [b] (fun q hq=>?_) ((Chg.refl [b] w5).putRow _ _ _ (.inl (by simp)))⟩
  rw [List.mem_singleton] at hq
  subst hq
  have hz:=Z2.out
  have hb:=HB.out
  exact ⟨by omega,.inl (by omega)⟩):p:=h
theorem Tz26 {p:Prop} (h:p:=by
 have z1:(x.st==1)=false:=by simp [z]
 have z2:(x.st==2)=false:=by simp [z]
 have z3:(x.st==3)=false:=by simp [z]
 have z6:(x.st==6)=false:=by simp [z]
 have z7:(x.st==7)=false:=by simp [z]
 have z9:(x.st==9)=false:=by simp [z]
 have hn:tb 12 x.st=0:=by rw [z];rfl
 have h00:x.st≠0:=by omega
 clear hst z
 rw [hn]
 refine Calls.mono ?_ (fun _ _ h=>.inl ⟨rfl,h⟩)
 clear hn hx hx0
 go_enter Tryz.func187,Tryz.ntmps187
 try dsimp only [List.append]
 go_wp2_with fail
 go_ret2
 exact RgRet.nil (f:=fun v=>.tuple #[v,.int .i64 16]) (H.out.keep ((Chg.refl [] w).alloc _)) (Zp ((Chg.refl [] w).alloc _))):p:=h
theorem Tz27 {p:Prop} (h:p:=by
 have HH:=Vh HC
 have HF:=Vh hF
 have HW:=Vh hW
 clear hk HC hF hW
 go_enter Tryz.func14,Tryz.ntmps14
 try dsimp only [List.append]
 go_wp2_with fail
 have r0:((w.alloc (.cells (mstc x) 42)).alloc (.cells (msc msZ) 38)).heap[w.heap.size+1]? =some (.cells (msc msZ) 38 (0,0)):=by simp
 have C2:=Vh (((Chg.refl [] w).alloc (.cells (mstc x) 42)).alloc (.cells (msc msZ) 38))
 have Z2:=Vh (show ((w.alloc (.cells (mstc x) 42)).alloc (.cells (msc msZ) 38)).heap.size=w.heap.size+2 by simp)
 refine (HH.out _ C2.out).mono ?_
 rintro e w5 ⟨rfl,m5⟩
 have M5:=Vh m5
 replace r0:=m5.choose_spec.2.1.keep r0 (fun h=>by have:=HF.out _ h;omega)
 have o0:=old r0
 generalize hb:w.heap.size+1=b at r0 o0 ⊢
 have HB:=Vh hb
 clear hb m5
 go_wp2_with fail
 refine bodyPost_ret (v:=.tuple #[.int .u64 0,.bool dh,.agg (msc msZ),.int .i64 0]) ?_ (by rfl) ?_
 ·exact X9 (by rfl) _ _ b msZ (0,0) (by rfl) Cz5 _ _ _ (by rfl) (by rfl) (by rfl)
 ·refine ⟨rfl,MTS.wrap HW.out HF.out C2.out M5.out [b] (fun q hq=>?_) Cz6⟩
  rw [List.mem_singleton] at hq
  subst hq
  have hz:=Z2.out
  have hb:=HB.out
  exact ⟨by omega,.inl (by omega)⟩):p:=h
theorem Tz28 {p:Prop} (h:p:=by
 refine ⟨A2,n2,rfl,?_,fun a ha=>Nat.le_trans C1.size (hA3 a ha),by (repeat' (first |exact Chg.refl _ _|assumption|exact Chg.refl [] _|refine Chg.drew ?_|refine Chg.drewN ?_ _|refine Chg.alloc ?_ _|refine Chg.putRow ?_ _ _ _ (.inr Cz4)|refine Chg.setCell ?_ _ _ _ (.inr Cz4)|refine Chg.trans ?_ c2|refine Chg.trans ?_ c3))⟩
 first
  |exact hs2
  |exact hs2.chg ((Chg.refl [w.heap.size+2] _).putRow _ _ _ (.inl (by simp))) Cz7
  |exact hs2.chg c3 (by simp)
  |exact (hs2.chg c3 (by simp)).chg ((Chg.refl [w.heap.size+2] _).putRow _ _ _ (.inl (by simp))) Cz7):p:=h
theorem Tz29 {p:Prop} (h:p:=by
 exact ⟨rfl,by (repeat' (first |exact Chg.refl _ _|assumption|exact Chg.refl [] _|refine Chg.drew ?_|refine Chg.drewN ?_ _|refine Chg.alloc ?_ _|refine Chg.putRow ?_ _ _ _ (.inr Cz4)|refine Chg.setCell ?_ _ _ _ (.inr Cz4)))⟩):p:=h
theorem Tz30 {p:Prop} (h:p:=by
 go_enter Tryz.func17,Tryz.ntmps17
 dsimp only [List.append]
 go_wp2
 go_ret
 exact ⟨rfl,rfl⟩):p:=h
theorem Tz31 {p:Prop} (h:p:=by
 refine HR.out.mono ?_
 rintro r w7 ⟨A7,c7,rfl,s7,a7,cw7⟩
 have S7:=Vh s7
 have AA7:=Vh a7
 have C7:=Vh cw7
 replace rS:=cw7.keep rS Vn
 replace rQ:=cw7.keep rQ Vn
 replace rE:=cw7.keep rE Vn
 replace r5:=cw7.keep r5 Vn
 clear s7 a7 cw7 o5 o6 oS oQ oE r6
 have o5:=old r5
 have oS:=old rS
 have oQ:=old rQ
 have oE:=old rE
 go_wp2_with fail
 have r8:(w7.alloc (.cells (ec r9.1) 117)).heap[w7.heap.size]? =some (.cells (ec r9.1) 117 (0,0)):=by simp
 have C8:=Vh ((Chg.refl [] w7).alloc (.cells (ec r9.1) 117))
 replace rS:=C8.out.keep rS Vn
 replace rQ:=C8.out.keep rQ Vn
 replace rE:=C8.out.keep rE Vn
 replace r5:=C8.out.keep r5 Vn
 have M8:=Vh (M66.out.trans (M66.out.1.stay (C7.out.trans C8.out)))
 have NB8:=Vh (show w7.heap.size∉z.all L from fun hm=>by have:=(M66.out.1.keep C7.out).old _ hm;omega)
 clear o5 oS oQ oE
 generalize w7.heap.size=b8 at r8 NB8 ⊢
 generalize w7.alloc (.cells (ec r9.1) 117)=w8 at r8 C8 rS rQ rE r5 M8 ⊢
 have oS:=old rS
 have oQ:=old rQ
 have oE:=old rE
 have o5:=old r5
 exact Tz7):p:=h
theorem Tz32 {p:Prop} (h:p:=by
 first
  |exact En3r.L1 C8 Tc oR (by omega)
  |exact En3r.L1p C8 Tc oR (by omega)
  |exact En3r.L2 C8 Tc oR (by omega)
  |exact En3r.L1 C8 (Chg.drew (Chg.refl [w.heap.size+2] w8)) oR (by omega)
  |exact En3r.L1p C8 (Chg.drew (Chg.refl [w.heap.size+2] w8)) oR (by omega)
  |exact En3r.L2 C8 (Chg.drew (Chg.refl [w.heap.size+2] w8)) oR (by omega)):p:=h
theorem Tz33 {p:Prop} (h:p:=by
 rintro e w' ⟨rfl,rfl⟩
 go_wp2_with fail
 go_ret
 exact ⟨rfl,Chg.refl _ _⟩):p:=h
theorem Tz34 {p:Prop} (h:p:=by
 try dsimp only [List.append]
 go_wp2_with fail
 refine ZJ (w:=w) (b1:=w.heap.size) (x1:=.cells (ec (x)) 56 (0,0)) (b2:=w.heap.size+1) (x2:=.cells (msc m) 38 (0,0)) (b3:=w.heap.size+2) (x3:=.cells (ec (enZ)) 56 (0,0)) Cz0 (by simp [*]) (by simp [*]) (by simp [*]) fun w1 C1 rE rM rR=>?_
 have oE:=old rE
 have oM:=old rM
 have oR:=old rR
 refine (Yv x _ g1 w1).mono ?_
 rintro e w3 ⟨rfl,c3⟩
 have rE3:=c3.keep rE (by simp)
 have rM3:=c3.keep rM (by simp)
 have rR3:=c3.keep rR (by simp)
 have C3:=C1.trans c3
 have o3:=ht.keep C3 (by simp)
 clear rE rM rR oE oM oR C1 c3
 have oE3:=old rE3
 have oM3:=old rM3
 have oR3:=old rR3
 go_wp2_with (go_at_call 143;refine (YK _ _ g2 _).mono ?_;rintro e w' ⟨rfl,rfl⟩)
 refine bodyPost_ret (v:=.tuple #[.agg (ec enZ),.slice none 0 0,.int .i64 1]) ?_ (by rfl) ?_
 ·exact Xw (by rfl) _ _ (w.heap.size+2) enZ (0,0) (by rfl) (by simp [rR3];try rfl) _ _ (by rfl) (by rfl)
 exact En3.err _ _ _ Cz0):p:=h
theorem Tz35 {p:Prop} (h:p:=by
 go_enter Tryz.func117,Tryz.ntmps117
 try dsimp only [List.append]
 go_wp2_with fail
 have cb:=(Chg.refl [] w).alloc (.cells (msc m) 38 (0,0))
 have rM:(w.alloc (.cells (msc m) 38 (0,0))).heap[w.heap.size]? =some (.cells (msc m) 38 (0,0)):=by simp
 have nM:=H.out.new2 (k:=w.heap.size) (Nat.le_refl _)
 have mM:=H.out.new3 (k:=w.heap.size) (Nat.le_refl _)
 replace H:=Vh (H.out.keep cb)
 replace CW:=Vh (CW.out.trans (Zp cb))
 clear cb
 generalize w.heap.size=pM at rM nM mM ⊢
 generalize w.alloc (.cells (msc m) 38 (0,0))=w1 at rM H CW ⊢
 have rG:=H.out.2.1
 have oM:=old rM
 refine (X2 m _ g3 w1).mono ?_
 rintro e w2 ⟨rfl,c2⟩
 replace H:=Vh (H.out.keep c2)
 replace CW:=Vh (CW.out.trans (Zp c2))
 replace rM:=c2.keep rM Vn
 clear c2
 have rG:=H.out.2.1
 have oM2:=old rM
 go_wp2_with (go_at_call 185;refine (X1 _ _ g4 _).mono ?_;rintro e w' ⟨rfl,rfl⟩)
 go_ret2
 exact RgRet.nil (f:=fun v=>.tuple #[v,.int .i64 1]) H.out CW.out):p:=h
theorem Tz36 {p:Prop} (h:p:=by
 obtain ⟨he,di,l,ow,sh,bu,by_,wa,h⟩:=e
 obtain ⟨a0,a1,a2,a3,a4,a5,a6,a7,rfl⟩:=Qdl h
 rfl):p:=h
theorem Tz37 {p:Prop} (h:p:=by
 try dsimp only [List.append]
 go_wp2_with fail
 refine ZJ (w:=w) (b1:=w.heap.size) (x1:=.cells (ec (x)) 56 (0,0)) (b2:=w.heap.size+1) (x2:=.cells (msc m) 38 (0,0)) (b3:=w.heap.size+2) (x3:=.cells (ec (enZ)) 56 (0,0)) Cz0 (by simp [*]) (by simp [*]) (by simp [*]) fun w1 C1 rE rM rR=>?_
 have oE:=old rE
 have oM:=old rM
 have oR:=old rR
 refine (Yv x _ g1 w1).mono ?_
 rintro e w3 ⟨rfl,c3⟩
 have rE3:=c3.keep rE (by simp)
 have rM3:=c3.keep rM (by simp)
 have rR3:=c3.keep rR (by simp)
 have C3:=C1.trans c3
 have o3:=ht.keep C3 (by simp)
 clear rE rM rR oE oM oR C1 c3
 have oE3:=old rE3
 have oM3:=old rM3
 have oR3:=old rR3
 go_wp2_with fail
 refine bodyPost_ret (v:=.tuple #[.agg (ec enZ),.slice none 0 0,.int .i64 1]) ?_ (by rfl) ?_
 ·exact Xw (by rfl) _ _ (w.heap.size+2) enZ (0,0) (by rfl) (by simp [rR3];try rfl) _ _ (by rfl) (by rfl)
 exact En3.err _ _ _ Cz0):p:=h
theorem Tz38 {p:Prop} (h:p:=by
 obtain rfl:=h0 rfl
 have hcl:cs'[2]? =some (.int .i64 0):=by
  have h2:=congrArg (fun l=>l[2]?) HX.out
  rw [List.getElem?_take_of_lt (by omega),List.getElem?_drop,Array.getElem?_toList] at h2
  exact h2
 clear h0 hlt hj
 have ob:=old hb
 go_wp2_with fail
 refine ⟨⟨1,cs'.setIfInBounds 2 (.int .i64 i),by omega,rfl,HC0.out.setCell _ _ _ (.inl (by simp)),by rw [heap_setCell,if_pos rfl,hb];rfl,by omega,fun _=>rfl⟩,by simp [intOf]⟩):p:=h
theorem Tz39 {p:Prop} (h:p:=by
 refine ⟨A2,n2,rfl,?_,fun a ha=>Nat.le_trans C1.size (hA3 a ha),by (repeat' (first |with_reducible exact Chg.refl _ _|with_reducible assumption|with_reducible refine Chg.drew ?_|with_reducible refine Chg.drewN ?_ _|with_reducible refine Chg.alloc ?_ _|with_reducible refine Chg.putRow ?_ _ _ _ (.inr ?_)|with_reducible refine Chg.setCell ?_ _ _ _ (.inr ?_)|with_reducible refine Chg.trans ?_ c2|with_reducible refine Chg.trans (b:=World.drew _) ?_ c2|with_reducible refine Chg.trans ?_ c3|with_reducible refine Chg.trans (b:=World.drew _) ?_ c3|(show _≤_;first |exact Nat.le_refl _|omega|(simp;done))))⟩
 first
  |exact hs2
  |exact hs2.chg ((Chg.refl [w.heap.size+1] _).putRow _ _ _ (.inl (by simp))) Cz7
  |exact hs2.chg c3 (by simp)
  |exact (hs2.chg c3 (by simp)).chg ((Chg.refl [w.heap.size+1] _).putRow _ _ _ (.inl (by simp))) Cz7):p:=h
theorem Tz40 {p:Prop} (h:p:=by
 go_ret
 exact ⟨by simp,by (repeat' (first |with_reducible exact Chg.refl _ _|with_reducible assumption|with_reducible refine Chg.drew ?_|with_reducible refine Chg.drewN ?_ _|with_reducible refine Chg.alloc ?_ _|with_reducible refine Chg.putRow ?_ _ _ _ (.inr ?_)|with_reducible refine Chg.setCell ?_ _ _ _ (.inr ?_)|(show _≤_;first |exact Nat.le_refl _|omega|(simp;done))))⟩):p:=h
theorem Tz41 {p:Prop} (h:p:=by
 try dsimp only [List.append]
 go_wp2_with (first |(go_at_call 74;refine (Qce k _ HH.out HK.out).mono ?_;rintro e w' ⟨rfl,rfl⟩))
 go_ret
 exact ⟨rfl,rfl⟩):p:=h
theorem Tz42 {p:Prop} (h:p:=by
 try dsimp only [List.append]
 go_wp2_with (first |(go_at_call 74;refine (Yq i _ HH.out HI.out).mono ?_;rintro e w' ⟨rfl,rfl⟩)|(go_at_call 76;refine (Xb li false HL.out _ HH.out).mono ?_;rintro e w' ⟨rfl,rfl⟩))
 go_ret
 exact ⟨rfl,rfl⟩):p:=h
theorem Tz43 {p:Prop} (h:p:=by
 unfold Po.foot
 simp only [List.mem_append,List.mem_cons,Vn,or_false,ZX]
 rcases hk with h|h|h|h|h|h<;>simp [h]):p:=h
theorem Tz44 {p:Prop} (h:p:=by
 try dsimp only [List.append]
 go_wp2_with fail
 go_ret
 exact ⟨rfl,rfl⟩):p:=h
theorem Tz45 {p:Prop} (h:p:=by
 go_enter Tryz.func93,Tryz.ntmps93
 try dsimp only [List.append]
 go_wp2_with fail
 refine JF (w:=w) (b1:=w.heap.size) (x1:=.cells (msc m) 38 (0,0)) Cz0 (by simp [*]) fun w1 C1 rM=>?_
 have oM:=old rM
 refine (Qbj m _ g3 w1 (hT.1.keep (H.out.1.1.trans C1) (by simp))).mono ?_
 rintro e w3 ⟨rfl,c3⟩
 replace rM:=c3.keep rM Vn
 have C3:=C1.trans c3
 replace H:=Vh (H.out.keep C3)
 replace CW:=Vh (Zp (a:=a) (b:=b) C3)
 have nM:=H.out.new2 (k:=w.heap.size)
 clear C1 c3 C3 oM nM
 have rG:=H.out.2.1
 have oM:=old rM
 go_wp2_with (go_at_call 149;refine (Qbi _ _ g4 _).mono ?_;rintro e w' ⟨rfl,rfl⟩)
 go_ret2
 exact AgRet.nil (f:=fun v=>.tuple #[v,.int .i64 1]) H.out CW.out):p:=h
theorem Tz46 {p:Prop} (h:p:=by
 obtain ⟨i0,hi0⟩:∃i,Tryz.prog.info? 34=some i:=Option.isSome_iff_exists.1 (by kernel_rfl)
 rw [run_equalIn_array w 9998 _ _ Tryz.underlying36 hi0,show Tryz.prog.cellsOf 34=1 by kernel_rfl]
 have:=JQ (P:=Tryz.prog) w 9997 (k:=.u64) Tryz.underlying34 (by kernel_rfl) a.l b.l (List.range 8) (by intro i hi;have:=a.h;have:=b.h;simp at hi;omega)
 unfold vs
 rw [this]
 congr 1
 rw [Bool.eq_iff_iff]
 simp only [List.all_eq_true,List.mem_range,beq_iff_eq]
 constructor
 ·intro h
  apply List.ext_getElem (by rw [a.h,b.h])
  intro j h1 h2
  have:=h j (by rw [a.h] at h1;exact h1)
  simpa [h1,h2] using this
 ·intro h j _;rw [h]):p:=h
theorem Tz47 {p:Prop} (h:p:=by
 rcases hb with h3|h3
 ·exact .inl h3
 ·refine .inr ⟨fun hm=>?_,fun e=>?_⟩
  ·have:=hnew _ hm;omega
  ·have:=h.oldp.lt;omega):p:=h
theorem Tz48 {p:Prop} (h:p:=by
 unfold eqE
 simp only [←mi_beq]
 simp only [Op.eqFields,ne_eq,String.reduceEq,not_false_eq_true,↓reduceIte,Sem.run_bind,p,q,r,s,t,u,v,l,e0,e8,e1,e2,Result.andThen_ok,run_ite',Bool.not_eq_true']
 generalize (a.he==b.he)=x1
 generalize (a.di==b.di)=x2
 generalize (a.l==b.l)=x3
 generalize (a.ow==b.ow)=x4
 generalize (mi a.sh==mi b.sh)=x5
 generalize (a.bu==b.bu)=x6
 generalize (a.by_==b.by_)=x7
 generalize (mi a.wa==mi b.wa)=x8
 clear p q r s t u v l e0 e8 e1 e2
 cases x1
 ·simp
 cases x2
 ·simp
 cases x3
 ·simp
 cases x4
 ·simp
 cases x5
 ·simp
 cases x6
 ·simp
 cases x7
 ·simp
 cases x8<;>simp):p:=h
theorem Tz49 {p:Prop} (h:p:=by
 go_enter Tryz.func31,Tryz.ntmps31
 try dsimp only [List.append]
 go_wp2_with (first |(go_at_call 76;refine (Xb (i:Int) true HB.out _ HH.out).mono ?_;rintro e w' ⟨rfl,rfl⟩))
 go_ret
 exact Tz0):p:=h
theorem Tz50 {p:Prop} (h:p:=by
 clear hN'
 go_enter Tryz.func160,Tryz.ntmps160
 go_wp2
 go_ret2
 refine ⟨w.heap.size+1,w.heap.size,rfl,by omega,by omega,((Chg.refl [] w).alloc _).alloc _,?_,?_,by omega,HG.out⟩
 ·simp
 ·simp):p:=h
theorem Tz51 {p:Prop} (h:p:=by
 rw [List.nodup_append] at hn
 refine ⟨fun hb=>hn.2.2 k hb k hm rfl,?_,List.mem_append_right _ hm⟩
 intro j y' hy' hj hk'
 have hf:=hn.2.1
 unfold feet at hf
 unfold List.Nodup at hf
 rw [List.pairwise_flatten] at hf
 have hp:=hf.2
 rw [List.pairwise_map] at hp
 rw [List.pairwise_iff_getElem] at hp
 obtain ⟨hi1,hi2⟩:=Vg hy
 obtain ⟨hj1,hj2⟩:=Vg hy'
 rcases Nat.lt_or_gt_of_ne hj with hlt|hlt
 ·have:=hp j i hj1 hi1 hlt
  rw [hi2,hj2] at this
  exact this k hk' k hk rfl
 ·have:=hp i j hi1 hj1 hlt
  rw [hi2,hj2] at this
  exact this k hk k hk' rfl):p:=h
theorem Tz52 {p:Prop} (h:p:=by
 go_enter Tryz.func61,Tryz.ntmps61
 try dsimp only [List.append]
 go_wp2_with fail
 refine (Xu (i:Int) true _ HH.out HB.out).mono ?_
 rintro e w' ⟨rfl,rfl⟩
 go_wp2_with fail
 go_ret
 exact Tz0):p:=h
theorem Tz53 {p:Prop} (h:p:=by
 try dsimp only [List.append]
 go_wp2_with fail
 refine (Xr i true _ HH.out HK.out).mono ?_
 rintro e w' ⟨rfl,rfl⟩
 go_wp2_with fail
 refine (Xu li false _ HH.out HL.out).mono ?_
 exact Tz33):p:=h
theorem Tz54 {p:Prop} (h:p:=by
 unfold Po.foot at hk
 simp only [List.mem_append,List.mem_cons,Vn,or_false,ZX] at hk
 rcases hk with h|h|h|h<;>simp [h]):p:=h
theorem Tz55 {p:Prop} (h:p:=by
 by_cases hb:z.be=z.q
 ·rw [if_pos hb] at hn
  simp only [List.append_nil,List.nodup_cons,List.mem_cons,Vn,or_false,not_or,List.nodup_nil,and_true,not_false_eq_true] at hn
  rw [hb]
  have:=hn.1.1
  have:=hn.2.1
  simp_all [Ne.symm]
 ·rw [if_neg hb] at hn
  simp only [List.cons_append,List.nil_append,List.nodup_cons,List.mem_cons,Vn,or_false,not_or,List.nodup_nil,and_true,not_false_eq_true] at hn
  simp only [ne_eq]
  refine ⟨⟨?_,?_,?_,?_,?_⟩,⟨?_,?_,?_,?_⟩,⟨?_,?_,?_⟩,⟨?_,?_⟩,?_,?_,?_,?_,?_,?_⟩<;>simp_all [eq_comm]):p:=h
theorem Tz56 {p:Prop} (h:p:=by
 try dsimp only [List.append]
 go_wp2_with (first |(go_at_call 74;refine (Yq i _ HH.out HI.out).mono ?_;rintro e w' ⟨rfl,rfl⟩)|(go_at_call 76;refine (Xb li true HL.out _ HH.out).mono ?_;rintro e w' ⟨rfl,rfl⟩))
 refine HG.out.mono ?_
 rintro e w2 ⟨A,n,rfl,h2,h3,h4⟩
 have HS:=Vh (HH.out.asks (nc:=n) HT.out HY.out HQ.out H1.out HM.out h2 h3 h4)
 clear h2 h3 h4 rS rP c0
 go_wp2_with fail
 refine HS.out.mono ?_
 rintro e w3 ⟨rfl,p',_,M⟩
 have HN:=Vh M
 clear M
 go_wp2_with fail
 go_ret
 exact ⟨rfl,p',HN.out⟩):p:=h
theorem Tz57 {p:Prop} (h:p:=by
 have ht:tb m.kd x.st=((2:Nat):Int):=by rw [ha,hs];rfl
 obtain ⟨e1,e2⟩:=hv.becomes ht (by decide)
 rw [show Yg m x ((2:Nat):Int)=cur by unfold Yg;rw [if_neg (by decide),if_neg (by omega),hl]] at e2
 rw [e1,e2,ht,ha];exact ⟨by decide,rfl,rfl,.o2 he⟩):p:=h
theorem Tz58 {p:Prop} (h:p:=by
 rw [List.mem_singleton] at hq
 subst hq
 have hz:=Z2.out
 have hb:=HB.out
 exact ⟨by omega,.inl (by omega)⟩):p:=h
theorem Tz59 {p:Prop} (h:p:=by
 obtain ⟨F',hm,hch,hk⟩:=h
 have ho:=hm.old
 refine ⟨F',hm.keepL hc2 (fun b hb hbF=>?_) (fun b hb=>Nat.le_trans hW (hl b hb).1),?_,fun k hkF=>?_⟩
 ·rcases (hl b hb).2 with h1|h1
  ·rcases hk b hbF with h2|h2
   ·have:=hF b h2;have:=(hl b hb).1;omega
   ·omega
  ·have:=ho b hbF;omega
 ·exact ((hc.mono (l':=F) (by simp)).trans' hch (fun k hk=>.inl hk)).trans' hc2 (fun k hk=>.inr (hl k hk).1)
 ·rcases hk k hkF with h2|h2
  ·exact .inl h2
  ·exact .inr (Nat.le_trans hc.size h2)):p:=h
theorem Tz60 {p:Prop} (h:p:=by
 cases e:w.heap[b]? with
 |none=>rw [e] at hb;cases hb
 |some x=>
  rw [e] at hb
  cases x with
  |cells c t f=>
   simp [Z7] at hb
   obtain ⟨hb,rfl⟩:=hb
   have:=hb.out
   first
    |(rw [QS,e,Qc];simp;omega)
    |(rw [QC,e,Qa])
  |_=>simp [Z7] at hb):p:=h
theorem Tz61 {p:Prop} (h:p:=by
 exact ⟨rfl,by (repeat' (first |with_reducible exact Chg.refl _ _|with_reducible assumption|with_reducible refine Chg.drew ?_|with_reducible refine Chg.drewN ?_ _|with_reducible refine Chg.alloc ?_ _|with_reducible refine Chg.putRow ?_ _ _ _ (.inr ?_)|with_reducible refine Chg.setCell ?_ _ _ _ (.inr ?_)|with_reducible refine Chg.trans ?_ c2|with_reducible refine Chg.trans (b:=World.drew _) ?_ c2|(show _≤_;first |exact Nat.le_refl _|omega|(simp;done))))⟩):p:=h
theorem Tz62 {p:Prop} (h:p:=by
 rcases hset a ya ha with ⟨ea,rfl⟩|⟨ea,ha2⟩
 ·rcases hset b yb hb with ⟨eb,_⟩|⟨eb,hb2⟩
  ·omega
  ·rcases hf k hka with h3|h3
   ·exact (hown k h3).2.1 b yb hb2 eb hkb
   ·have:=hold k (h.own hb2 k hkb).2.2
    omega
 ·rcases hset b yb hb with ⟨eb,rfl⟩|⟨eb,hb2⟩
  ·rcases hf k hkb with h3|h3
   ·exact (hown k h3).2.1 a ya ha2 ea hka
   ·have:=hold k (h.own ha2 k hka).2.2
    omega
  ·exact (h.own ha2 k hka).2.1 b yb hb2 (Ne.symm hab) hkb):p:=h
theorem Tz63 {p:Prop} (h:p:=by
 rintro e w5 ⟨A,n,rfl,h1,h2,h3⟩
 replace rR:=h3.keep rR nR
 have oR5:=old rR
 go_wp2_with fail
 refine bodyPost_ret (Qab (by rfl) _ _ pR (.int .u64 0) (.bool false) _ (0,0) (by rfl) (by simp [rR];try rfl)) (by rfl) ?_
 exact RgRet.put (f:=fun v=>.agg #[.int .u64 0,.bool false,v]) h2 h1 (CW.out.trans h3) ((((Chg.refl [pR] w5).setCell _ _ _ (.inl (Vm rfl))).setCell _ _ _ (.inl (Vm rfl))).setCell _ _ _ (.inl (Vm rfl))) mR uR CW.out.size oR):p:=h
theorem Tz64 {p:Prop} (h:p:=by
 refine ⟨A2,n2,rfl,?_,fun a ha=>Nat.le_trans C3.size (hA3 a ha),by (repeat' (first |exact Chg.refl _ _|assumption|exact Chg.refl [] _|refine Chg.drew ?_|refine Chg.drewN ?_ _|refine Chg.alloc ?_ _|refine Chg.putRow ?_ _ _ _ (.inr Cz4)|refine Chg.setCell ?_ _ _ _ (.inr Cz4)|refine Chg.trans ?_ c2))⟩
 exact hs2.chg ((Chg.refl [w.heap.size+2] _).putRow _ _ _ (.inl (by simp))) (by intro a ha;have:=hA3 a ha;have:=oR3.lt;simp;omega)):p:=h
theorem Tz65 {p:Prop} (h:p:=by
 obtain rfl:ys=[]:=List.eq_nil_of_length_eq_zero hm
 have hfc:=X8 (P:=P) w i0.size 0 B 0 c [] ⟨by simp,.inl rfl⟩
 refine ⟨be,cap,A,w,?_,by simpa using hv,.inl rfl,Chg.refl _ _,rfl⟩
 have hle:=hv.le
 unfold appR
 cases A with
 |none=>simp [Builtin.append_,run_underlying E.slice,sizeOf,typeInfo,hi0,Builtin.lenOf,hfc,hle]
 |some a=>simp [Builtin.append_,run_underlying E.slice,sizeOf,typeInfo,hi0,Builtin.lenOf,hfc,hle,storeCells]):p:=h
theorem Tz66 {p:Prop} (h:p:=by
 have hp':tmps[p]?.getD undef=.pointer (some ⟨b,0,none⟩):=by simpa using hp
 have:=run_loadVar_row (P:=Tryz.prog) w b 56 56 (ec x) fr _ hb Tryz.underlying56 rfl (by rw [QL];kernel_rfl)
 simp [results,h,hp',asAddr,this]):p:=h
theorem Tz67 {p:Prop} (h:p:=by
 intro k hk
 simp only [List.mem_cons,Vn,or_false] at hk ⊢
 rcases hk with rfl|rfl|rfl
 ·simp only [not_or];exact ⟨n6.1.1,Ne.symm n6.2.2.2.2.2.1,n6.1.2.1,n6.1.2.2.1⟩
 ·simp only [not_or];exact ⟨Ne.symm n6.2.1.2.2.1,Ne.symm n6.2.2.2.2.2.2.2.2.1,Ne.symm n6.2.2.1.2.1,Ne.symm n6.2.2.2.1.1⟩
 ·simp only [not_or];exact ⟨Ne.symm n6.2.1.2.2.2,Ne.symm n6.2.2.2.2.2.2.2.2.2,Ne.symm n6.2.2.1.2.2,Ne.symm n6.2.2.2.1.2⟩):p:=h
theorem Tz68 {p:Prop} (h:p:=by
 clear h hi hl hT hq hm hy
 go_enter Tryz.func30,Tryz.ntmps30
 try dsimp only [List.append]
 go_wp2_with (first |(go_at_call 74;refine (Yq i _ HH.out HI.out).mono ?_;rintro e w' ⟨rfl,rfl⟩)|(go_at_call 76;refine (Xb li true HL.out _ HH.out).mono ?_;rintro e w' ⟨rfl,rfl⟩))
 refine (HA.out _ (Chg.refl _ _)).mono ?_
 rintro e w2 ⟨rfl,p',_,M⟩
 have HN:=Vh M
 clear M
 go_wp2_with fail
 go_ret
 exact ⟨rfl,p',HN.out⟩):p:=h
theorem Tz69 {p:Prop} (h:p:=by
 have HUP:=Vh hup
 clear hy1 hup
 go_wp2_with fail
 refine HUP.out.mono ?_
 rintro e w4 ⟨rfl,p',_,m4⟩
 have M4:=Vh (M1.out.trans m4)
 rw [List.set_set] at M4
 clear m4
 go_wp2_with fail
 go_ret
 exact ⟨rfl,p',M4.out⟩):p:=h
theorem Tz70 {p:Prop} (h:p:=by
 go_ret
 exact ⟨rfl,(Chg.refl _ _).alloc _⟩):p:=h
theorem Tz71 {p:Prop} (h:p:=by
 obtain ⟨h1,h2,h3,h4⟩:=h
 have e:∀k,(k=y.1.g∨k=y.1.a∨k=y.1.b∨(k=y.1.ub∧y.1.ub≠po)∨(k=y.1.nb∧y.1.nb≠po)∨(k=y.1.db∧y.1.db≠po))→k∉l:=by
  intro k hk
  refine hd k ?_
  exact Tz43
 exact ⟨h1.keepL hc hl (e _ (by simp)) (e _ (by simp)) (e _ (by simp)),h2.keepN hc (fun hb=>e _ (by simp [hb])),h3.keepN hc (fun hb=>e _ (by simp [hb])),h4.keepN hc (fun hb=>e _ (by simp [hb]))⟩):p:=h
theorem Tz72 {p:Prop} (h:p:=by
 obtain ⟨h1,h2,h3,h4⟩:=h
 intro x hx
 unfold Po.foot at hx
 simp only [List.mem_append,List.mem_cons,Vn,or_false,ZX] at hx
 have a1:=h1.old2
 simp only [List.mem_cons,Vn,or_false,forall_eq_or_imp,forall_eq] at a1
 rcases hx with (h|h|h)|h|h|h
 ·rw [h];exact ZS h1.2.1
 ·rw [h];exact a1.1
 ·rw [h];exact a1.2
 ·rw [h.1];exact h2.old hp
 ·rw [h.1];exact h3.old hp
 ·rw [h.1];exact h4.old hp):p:=h
theorem Tz73 {p:Prop} (h:p:=by
 refine ⟨A2,n2,rfl,?_,fun a ha=>Nat.le_trans C1.size (hA3 a ha),by (repeat' (first |exact Chg.refl _ _|assumption|exact Chg.refl [] _|refine Chg.drew ?_|refine Chg.drewN ?_ _|refine Chg.alloc ?_ _|refine Chg.putRow ?_ _ _ _ (.inr Cz4)|refine Chg.setCell ?_ _ _ _ (.inr Cz4)|refine Chg.trans ?_ c2))⟩
 exact hs2.chg ((Chg.refl [w.heap.size+2] _).putRow _ _ _ (.inl (by simp))) Cz7):p:=h
theorem Tz74 {p:Prop} (h:p:=by
 exact ⟨A,n,rfl,h1.from CW.out.size,h2,CW.out.trans h3⟩):p:=h
theorem Tz75 {p:Prop} (h:p:=by
 first
  |exact En3r.S C8 oR (by omega) hs2 hA3 Td (Chg.refl _ _)
  |exact En3r.S C8 oR (by omega) hs2 hA3 Td (Chg.putRow (Chg.refl _ _) (w.heap.size+2) 0 _ (.inl (Vm rfl)))
  |exact En3r.S C8 oR (by omega) hs2 hA3 Td (Chg.mono cb (fun _ h=>absurd h Vn))
  |exact En3r.S C8 oR (by omega) hs2 hA3 Td (Chg.putRow (Chg.mono cb (fun _ h=>absurd h Vn)) (w.heap.size+2) 0 _ (.inl (Vm rfl)))):p:=h
theorem Tz76 {p:Prop} (h:p:=by
 rintro e w' ⟨rfl,rfl⟩
 go_wp2_with fail
 refine bodyPost_ret (Qdh (by rfl) _ _ b8 (.int .u64 0) (.bool false) (0,0) (by rfl) (by simp [r0];try rfl)) (by rfl) ?_
 exact ⟨rfl,ca.out.trans' (((Chg.refl [b8] w1).setCell _ _ _ (.inl (by simp))).setCell _ _ _ (.inl (by simp))) (by intro y hy;rw [List.mem_singleton] at hy;subst hy;have:=HB8.out;exact .inr (by omega))⟩):p:=h
theorem Tz77 {p:Prop} (h:p:=by
 simp only [Builtin.zeroCells,Array.toList_map,List.mem_map] at hv'
 obtain ⟨k,hk,rfl⟩:=hv'
 have hk':k<(m+1)*z.cells.size:=by simpa using hk
 have hz0:0<z.cells.size:=by
  rcases Nat.eq_zero_or_pos z.cells.size with h|h
  ·rw [h] at hk';omega
  ·exact h
 have hlt:=Nat.mod_lt k hz0
 rw [getElem!_pos z.cells (k % z.cells.size) hlt]
 exact h1 _ (Array.getElem_mem hlt)):p:=h
theorem Tz78 {p:Prop} (h:p:=by
 have C2:=Vh (HCI.out.trans cw2)
 have r2:=cw2.keep ri1 Vn
 clear cw2 ri1 rm r0 o0 hcl
 have o2:=old r2
 go_wp2_with fail
 refine (HR.out _).mono ?_
 rintro e w3 ⟨rfl,cw3⟩
 have C3:=Vh (C2.out.trans cw3)
 clear cw3 r2 o2
 go_wp2_with fail
 refine (mwakes _ (HT.out.keep0 C3.out)).mono ?_
 rintro e w4 ⟨rfl,cw4⟩
 go_wp2_with fail
 go_ret
 exact ⟨rfl,C3.out.trans cw4⟩):p:=h
theorem Tz79 {p:Prop} (h:p:=by
 rcases hk with rfl|rfl|rfl
 ·exact this.1 e
 ·exact this.2.1 e
 ·exact this.2.2 e):p:=h
theorem Tz80 {p:Prop} (h:p:=by
 have hk2:(k=p.g∨k=p.a∨k=p.b)∨(k=p.ub∧p.ub≠z.po)∨(k=p.nb∧p.nb≠z.po)∨(k=be'∧be'≠z.po):=by
  exact Tz54
 rcases hk2 with h3|h3|h3|h3
 ·exact .inl (hin k Cz28)
 ·exact .inl (hin k (by simp [h3]))
 ·exact .inl (hin k (by simp [h3]))
 ·rcases hb with h4|h4
  ·exact .inl (hin k (by rw [←h4];simp [h3]))
  ·exact .inr (by rw [h3.1];exact h4)):p:=h
theorem Tz81 {p:Prop} (h:p:=by
 have hk2:(k=p.g∨k=p.a∨k=p.b)∨(k=p.ub∧p.ub≠z.po)∨(k=be'∧be'≠z.po)∨(k=p.db∧p.db≠z.po):=by
  exact Tz54
 rcases hk2 with h3|h3|h3|h3
 ·exact .inl (hin k Cz28)
 ·exact .inl (hin k (by simp [h3]))
 ·rcases hb with h4|h4
  ·exact .inl (hin k (by rw [←h4];simp [h3]))
  ·exact .inr (by rw [h3.1];exact h4)
 ·exact .inl (hin k (by simp [h3]))):p:=h
theorem Tz82 {p:Prop} (h:p:=by
 have hk2:(k=p.g∨k=p.a∨k=p.b)∨(k=be'∧be'≠z.po)∨(k=p.nb∧p.nb≠z.po)∨(k=p.db∧p.db≠z.po):=by
  exact Tz54
 rcases hk2 with h3|h3|h3|h3
 ·exact .inl (hin k Cz28)
 ·rcases hb with h4|h4
  ·exact .inl (hin k (by rw [←h4];simp [h3]))
  ·exact .inr (by rw [h3.1];exact h4)
 ·exact .inl (hin k (by simp [h3]))
 ·exact .inl (hin k (by simp [h3]))):p:=h
theorem Tz83 {p:Prop} (h:p:=by
 go_wp2_with fail
 refine (Qci _ x nx _).mono ?_
 rintro e w9 ⟨A,n,rfl,h1,c9⟩
 go_wp2_with fail
 go_ret2
 exact AgRet.ms (f:=fun v=>.tuple #[v,.int .i64 0]) H.out CW.out h1 c9):p:=h
theorem Tz84 {p:Prop} (h:p:=by
 go_enter Tryz.func176,Tryz.ntmps176
 try dsimp only [List.append]
 go_wp2_with (first
  |(go_at_call 177;refine (Y9 _ _).mono ?_;rintro e w' ⟨rfl,rfl⟩;rw [a1])
  |(go_at_call 184;refine (X7 _ _).mono ?_;rintro e w' ⟨rfl,rfl⟩;rw [a2])
  |(go_at_call 185;refine (YF _ _).mono ?_;rintro e w' ⟨rfl,rfl⟩;rw [a3]))
 exact Tz70):p:=h
theorem Tz85 {p:Prop} (h:p:=by
 try dsimp only [List.append]
 go_wp2_with fail
 have r1:(w.alloc (.cells c.cells 23)).heap[w.heap.size]? =some (.cells c.cells 23 (0,0)):=by simp
 refine (HG.out _).mono ?_
 rintro e w2 ⟨rfl,c2⟩
 replace r1:=c2.keep r1 Vn
 have o1:=old r1
 go_wp2_with fail
 go_ret2
 exact ⟨rfl,((Chg.refl [] w).alloc _).trans c2⟩):p:=h
theorem Tz86 {p:Prop} (h:p:=by
 try dsimp only [List.append]
 go_wp2_with (first |(go_at_call 76;refine (Xb k false HK.out _ HH.out).mono ?_;rintro e w' ⟨rfl,rfl⟩))
 go_ret
 exact ⟨rfl,rfl⟩):p:=h
theorem Tz87 {p:Prop} (h:p:=by
 go_enter Tryz.func81,Tryz.ntmps81
 try dsimp only [List.append]
 go_wp2_with (first |(go_at_call 128;refine (YJ _ _ t1 _).mono ?_;rintro e w' ⟨rfl,rfl⟩)|(go_at_call 129;refine (J0 _ _ t2 _).mono ?_;rintro e w' ⟨rfl,rfl⟩))
 go_ret3
 exact AgRet.nil (f:=fun v=>.tuple #[.int .u64 0,.bool false,v]) H.out CW.out):p:=h
theorem Tz88 {p:Prop} (h:p:=by
 rw [Nat.mul_one,Nat.add_zero] at this
 exact this):p:=h
theorem Tz89 {p:Prop} (h:p:=by
 go_enter Tryz.func88,Tryz.ntmps88
 try dsimp only [List.append]
 go_wp2_with (first |(go_at_call 128;refine (YJ _ _ t1 _).mono ?_;rintro e w' ⟨rfl,rfl⟩)|(go_at_call 129;refine (J0 _ _ t2 _).mono ?_;rintro e w' ⟨rfl,rfl⟩))
 go_ret2
 exact AgRet.nil (f:=fun v=>.tuple #[.bool false,v]) H.out CW.out):p:=h
theorem Tz90 {p:Prop} (h:p:=by
 rcases hr2 with ⟨h1,h2,be',M1⟩|⟨h1,h2,be',ks',L',M1,hp2⟩
 ·exact .inl ⟨h1,h2,MemTo.of M1 rfl rfl⟩
 ·exact .inr ⟨h1,h2,MemTo.of M1 rfl hp2⟩):p:=h
theorem Tz91 {p:Prop} (h:p:=by
 try dsimp only [List.append]
 go_wp2_with fail
 refine (Xr i false _ HH.out HK.out).mono ?_
 exact Tz33):p:=h
theorem Tz92 {p:Prop} (h:p:=by
 clear yes no
 go_enter Tryz.func199,Tryz.ntmps199
 try dsimp only [List.append]
 go_wp2_with fail
 go_region
 all_goals
  go_wp2_with fail
  refine bodyPost_ret (Qdf (by rfl) _ _ (w.heap.size+1) _ (0,0) (by rfl) (by simp (maxDischargeDepth:=8) [hx8];try rfl)) (by rfl) ?_
  exact Tz0):p:=h
theorem Tz93 {p:Prop} (h:p:=by
 simp [results,h,hp',asAddr,this]):p:=h
theorem Tz94 {p:Prop} (h:p:=by
 have k10:(m.kd==10)=false:=by simp [hk]
 have k11:(m.kd==11)=false:=by simp [hk]
 have k12:(m.kd==12)=false:=by simp [hk]
 have k13:(m.kd==13)=false:=by simp [hk]
 have z4:((Qn s.1 m.li).st==4)=false:=by simp [hst]
 clear hk hst
 generalize Qn s.1 m.li=x at hsl z4
 exact Tz3):p:=h
theorem Tz95 {p:Prop} (h:p:=by
 cases h1:hasM o (j:Int)
 ·simp only [Bool.false_eq_true,if_false,List.append_nil]
  exact ((hr j hj).anyKt kt).1
 ·rw [if_pos rfl]
  refine (hr j hj).tell kt _ rfl ?_ ?_
  ·rcases ho j (by omega) h1 with h2|h2<;>simp [h2]
  ·intro h2;simpa using h13 h2 j (by omega) h1):p:=h
theorem Tz96 {p:Prop} (h:p:=by
 go_wp2_with fail
 go_quiet (first |(go_at_call 230;exact J6 (Qft y.st _ _ hr)))
 go_wp2_with fail
 go_roundw
 case rel=>exact ⟨k+1,_,by omega,by go_num,rfl,HCQ.out.drewN _,.inr ⟨f+k,y,by go_num,HXY.out,HP.out,HPOS.out⟩⟩
 case measure=>simp [intOf];omega):p:=h
theorem Tz97 {p:Prop} (h:p:=by
 have hj':j<(m+1)*z.cells.size:=by simpa [size_zeroCells] using hj
 cases e:w.heap[b]? with
 |none=>rw [e] at hb;cases hb
 |some x=>
  rw [e] at hb
  cases x with
  |cells c t f=>
   simp [Z7] at hb
   have:=hb.1.out
   rw [QS,e,Qc];simp;omega
  |_=>simp [Z7] at hb):p:=h
theorem Tz98 {p:Prop} (h:p:=by
 refine ⟨sy,z.all L,rfl,⟨z,L,hz,rfl,hp,hm⟩,((C4.out.trans K5.out).mono (by simp)).trans' hc6 (fun x hx=>.inr (by rw [Vs hx];exact SY0.out)),?_⟩
 intro k hk
 have h1:=HSZ.out
 have h2:=SY0.out
 rcases hk6 k hk with h|h
 ·exact hge k h
 ·omega):p:=h
theorem Tz99 {p:Prop} (h:p:=by
 clear hr2
 go_wp2_with (go_at_call 232;refine (Qeo _ _).mono ?_;rintro e w' ⟨rfl,rfl⟩)
 go_quiet (fail)
 go_wp2
 go_roundw
 case rel=>exact ⟨k+1,_,_,by omega,by go_num,rfl,rfl,(HC.out.alloc _).drewN _,HP.out⟩
 case measure=>simp [intOf];omega):p:=h
theorem Tz100 {p:Prop} (h:p:=by
 have hr:Z7 (w.heap[b]?) (k*11) (slc y).size=true:=by rw [h.2.1,QF];exact Qcb hx [] _
 refine ⟨?_,?_,h.2.2.1,hg⟩
 ·rw [Qb _ _ _ _ _ hr,if_neg h.2.2.1,List.length_set];exact h.1
 ·rw [Qb _ _ _ _ _ hr,if_pos rfl,h.2.1];exact Qbr hx [] _ _ y):p:=h
theorem Tz101 {p:Prop} (h:p:=by
 rintro e w3 ⟨rfl,c3⟩
 have rE3:=c3.keep rE (by simp)
 clear rE
 go_wp2_with fail
 go_ret
 exact ⟨by simp,C1.trans c3⟩):p:=h
theorem Tz102 {p:Prop} (h:p:=by
 have hm:cat enc (xs.set i b)=cat enc xs:=by
  unfold cat
  rw [List.map_set,he]
  congr 1
  apply List.ext_getElem?
  intro j
  rw [List.getElem?_set]
  split
  ·rename_i e
   subst e
   simp [h]
   exact (Vg h).1
  ·rfl
 unfold sq
 rw [hm]):p:=h
theorem Tz103 {p:Prop} (h:p:=by
 have HH:=Vh HC
 have HF:=Vh hF
 have HW:=Vh hW
 exact Tz2):p:=h
theorem Tz104 {p:Prop} (h:p:=by
 go_enter Tryz.func3,Tryz.ntmps3
 try dsimp only [List.append]
 go_wp2_with (first |(go_at_call 11;refine (mwakes _ (HT.out.keep0 Cz0)).mono ?_;rintro e w2 ⟨rfl,cw2⟩))
 go_ret
 exact ⟨rfl,((Chg.refl [] W).alloc _).trans cw2⟩):p:=h
theorem Tz105 {p:Prop} (h:p:=by
 clear yes no hxl
 go_enter Tryz.func223,Tryz.ntmps223
 try dsimp only [List.append]
 go_wp2_with fail
 go_region
 all_goals
  go_wp2_with fail
  go_ret
  exact MsTo.at (m:=(((ms4 kd li false ke).putDi true).putL x.l x.h)) Cz0 (by simp)):p:=h
theorem Tz106 {p:Prop} (h:p:=by
 first
  |exact En3r.L1 C8 cT oR (by omega)
  |exact En3r.L1p C8 cT oR (by omega)
  |exact En3r.L1p C8 cO oR (by omega)
  |exact En3r.L2 C8 cT oR (by omega)
  |exact En3r.L2 C8 cO oR (by omega)
  |exact En3r.L3 C8 cT oR (by omega) c2):p:=h
theorem Tz107 {p:Prop} (h:p:=by
 rcases hv with ⟨_,h,_⟩|⟨h1,h2,_⟩
 ·cases h
 ·cases h2
  rcases hb with rfl|h
  ·exact absurd rfl h1
  ·exact h):p:=h
theorem Tz108 {p:Prop} (h:p:=by
 refine bodyPost_ret (v:=.tuple #[.agg (ec enZ),.slice none 0 0,.int .i64 16]) ?_ (by rfl) ?_
 ·exact Xw (by rfl) _ _ (w.heap.size+2) enZ (0,0) (by rfl) (by simp [rR4];try rfl) _ _ (by rfl) (by rfl)
 exact En3.err _ _ _ Cz0):p:=h
theorem Tz109 {p:Prop} (h:p:=by
 refine bodyPost_ret (v:=.tuple #[.agg (ec enZ),.slice none 0 0,.int .i64 1]) ?_ (by rfl) ?_
 ·exact Xw (by rfl) _ _ (w.heap.size+2) enZ (0,0) (by rfl) (by simp [rR4];try rfl) _ _ (by rfl) (by rfl)
 exact En3.err _ _ _ Cz0):p:=h
theorem Tz110 {p:Prop} (h:p:=by
 go_wp2
 go_roundw
 case rel=>exact ⟨k+1,by omega,by go_num,HC.out.alloc _,HP.out⟩
 case measure=>simp [intOf];omega):p:=h
theorem Tz111 {p:Prop} (h:p:=by
 clear hr
 go_wp2_with (go_at_call 232;refine (Qeo _ _).mono ?_;rintro e w' ⟨rfl,rfl⟩)
 go_roundw
 case rel=>exact ⟨k+1,_,_,by omega,by go_num,rfl,rfl,HC.out.alloc _,HP.out⟩
 case measure=>simp [intOf];omega):p:=h
theorem Tz112 {p:Prop} (h:p:=by
 go_wp2_with fail
 go_roundw
 case rel=>
  refine ⟨k+1,be',cap',A',by omega,by go_num,?_,HC2.out,by rw [←HP.out];exact HV2.out,HB2.out⟩
  rw [←HP.out,List.length_append];rfl
 case measure=>simp [intOf];omega):p:=h
theorem Tz113 {p:Prop} (h:p:=by
 go_wp2_with (go_at_call 204;refine (JC _ _ _ _).mono ?_;rintro e w' ⟨rfl,rfl⟩)
 go_ret
 exact ⟨rfl,rfl⟩):p:=h
theorem Tz114 {p:Prop} (h:p:=by
 refine bodyPost_ret (v:=.tuple #[.agg (ec y),.slice none 0 0,.int .i64 0]) ?_ (by rfl) ?_
 ·exact Xx (by rfl) _ _ (w.heap.size+2) y (0,0) (by rfl) (by simp [rR7];try rfl) _ _ (by rfl) (by rfl)
 exact Tz22):p:=h
theorem Tz115 {p:Prop} (h:p:=by
 rcases hset j y1 hj with ⟨_,rfl⟩|⟨_,h2⟩
 ·rcases hf k hk with h3|h3
  ·exact .inl (hown k h3).2.2
  ·exact .inr h3
 ·exact .inl (List.mem_append_right _ (Jc.2 ⟨y1,List.mem_of_getElem? h2,hk⟩))):p:=h
theorem Tz116 {p:Prop} (h:p:=by
 have hp':tmps[p]?.getD undef=.pointer (some ⟨b,0,none⟩):=by simpa using hp
 have:=run_loadVar_row (P:=Tryz.prog) w b 36 36 (vs l) fr _ hb Tryz.underlying36 rfl (by rw [Qw,hl];kernel_rfl)
 exact Tz93):p:=h
theorem Tz117 {p:Prop} (h:p:=by
 have hp':tmps[p]?.getD undef=.pointer (some ⟨b,0,none⟩):=by simpa using hp
 have:=run_loadVar_row (P:=Tryz.prog) w b 117 117 (ec x) fr _ hb Tryz.underlying117 rfl (by rw [QL];kernel_rfl)
 exact Tz93):p:=h
theorem Tz118 {p:Prop} (h:p:=by
 have h1:(w1.alloc (.cells (ec enZ) 117)).drew.heap[w1.heap.size]? =some (.cells (ec enZ) 117 (0,0)):=by simp
 rw [Qb _ _ _ _ _ (by rw [h1,Qd,QL,QL];rfl),if_pos rfl,h1]
 exact Qe _ _ _ _ (by rw [QL,QL])):p:=h
theorem Tz119 {p:Prop} (h:p:=by
 try dsimp only [List.append]
 go_wp2_with fail
 refine (Xu k false _ HH.out HK.out).mono ?_
 exact Tz33):p:=h
theorem Tz120 {p:Prop} (h:p:=by
 simp only [List.mem_cons,Vn,or_false,not_or]
 exact ⟨fun e=>this (e▸hpo),fun e=>this (e▸hub)⟩):p:=h
theorem Tz121 {p:Prop} (h:p:=by
 have ht:tb m.kd x.st=10:=by rw [ha,hs];rfl
 rw [hv.drop ht,ht,ha];exact ⟨by decide,rfl,rfl,.i _⟩):p:=h
theorem Tz122 {p:Prop} (h:p:=by
 cases e:w.heap[b]? with
 |none=>rw [e] at hb;cases hb
 |some x=>
  rw [e] at hb
  cases x with
  |cells c t f=>
   simp [Z7] at hb
   obtain ⟨hb,rfl⟩:=hb
   rw [QC,e,Qa]
  |_=>simp [Z7] at hb):p:=h
theorem Tz123 {p:Prop} (h:p:=by
 obtain ⟨j,hj⟩:=List.getElem?_of_mem hy1
 rcases hset j y1 hj with ⟨_,rfl⟩|⟨hji,h2⟩
 ·exact hok
 ·exact (h.ok y1 (List.mem_of_getElem? h2)).keep hc hw (hfo j y1 h2 hji)):p:=h
theorem Tz124 {p:Prop} (h:p:=by
 intro k hk
 have h3:=hpo k (hin k Cz27)
 simp only [List.mem_cons,Vn,or_false,not_or]
 refine ⟨h3,fun e=>?_⟩
 have h4:p.ub≠z.po:=fun e2=>h3 (e.trans e2)
 have:=du h4
 exact Tz79):p:=h
theorem Tz125 {p:Prop} (h:p:=by
 intro k hk
 have h3:=hpo k (hin k Cz27)
 simp only [List.mem_cons,Vn,or_false,not_or]
 refine ⟨h3,fun e=>?_⟩
 have h4:p.nb≠z.po:=fun e2=>h3 (e.trans e2)
 have:=dn h4
 exact Tz79):p:=h
theorem Tz126 {p:Prop} (h:p:=by
 intro k hk
 have h3:=hpo k (hin k Cz27)
 simp only [List.mem_cons,Vn,or_false,not_or]
 refine ⟨h3,fun e=>?_⟩
 have h4:p.db≠z.po:=fun e2=>h3 (e.trans e2)
 have:=dd h4
 exact Tz79):p:=h
theorem Tz127 {p:Prop} (h:p:=by
 rw [List.mem_append] at hk
 rcases hk with hk|hk
 ·rcases hnb k hk with h1|h1
  ·exact .inl (List.mem_append_left _ h1)
  ·exact .inr h1
 ·exact .inl (List.mem_append_right _ hk)):p:=h
theorem Tz128 {p:Prop} (h:p:=by
 try dsimp only [List.append]
 go_wp2_with fail
 go_ret2
 exact RgRet.nil (f:=fun v=>.tuple #[v,.int .i64 16]) (H.out.keep ((Chg.refl [] w).alloc _)) (Zp ((Chg.refl [] w).alloc _))):p:=h
theorem Tz129 {p:Prop} (h:p:=by
 intro k hk hm
 unfold Po.foot at hfn
 rw [List.nodup_append] at hfn
 refine hfn.2.2 k ?_ k hk rfl
 simp only [List.mem_cons,Vn,or_false] at hm ⊢
 rcases hm with h1|h1<;>simp [h1]):p:=h
theorem Tz130 {p:Prop} (h:p:=by
 rw [List.append_assoc]
 refine List.Perm.append_left _ ?_
 rw [←List.append_assoc]
 refine (List.Perm.append_right _ List.perm_append_comm).trans ?_
 rw [List.append_assoc]
 rfl):p:=h
theorem Tz131 {p:Prop} (h:p:=by
 exact ⟨rfl,C1.out.trans' ((Chg.refl [b4] w1).putRow _ _ _ (.inl (by simp))) (by intro y hy;rw [List.mem_singleton] at hy;subst hy;have:=HB4.out;exact .inr (by omega))⟩):p:=h
theorem Tz132 {p:Prop} (h:p:=by
 unfold Po.foot
 simp only [List.mem_cons,Vn,or_false] at hk
 rcases hk with h5|h5<;>simp [h5]):p:=h
theorem Tz133 {p:Prop} (h:p:=by
 intro j y1 hj
 rw [List.getElem?_set] at hj
 split at hj
 ·rename_i e
  exact .inl ⟨e.symm,(Option.some.inj hj).symm⟩
 ·rename_i e
  exact .inr ⟨fun e'=>e e'.symm,hj⟩):p:=h
theorem Tz134 {p:Prop} (h:p:=by
 intro d hd
 simp only [List.mem_singleton] at hd
 subst hd
 exact ⟨HC.out,HCO.out,HG.out⟩):p:=h
theorem Tz135 {p:Prop} (h:p:=by
 simp only [List.mem_append,List.mem_cons,Vn,or_false,ZX]
 by_cases hb:z.be=z.q
 ·rcases hk with h|h|h|h|h|h|h<;>simp [h,hb]
 ·rcases hk with h|h|h|h|h|h|h<;>simp [h,hb]):p:=h
theorem Tz136 {p:Prop} (h:p:=by
 rwa [show (w.alloc o).heap.size=w.heap.size+1 by simp] at this):p:=h
theorem Tz137 {p:Prop} (h:p:=by
 replace H:=Vh (H.out.keep c2)
 replace CW:=Vh (CW.out.trans (Zp c2))
 clear c2
 have rG:=H.out.2.1
 go_wp2_with fail
 go_ret
 exact RgRet.nil (f:=fun v=>v) H.out CW.out):p:=h
theorem Tz138 {p:Prop} (h:p:=by
 go_roundw
 case rel=>exact ⟨k+1,be',cap',A',by omega,by go_num,by rw [←HL.out],HC2.out,by rw [HS.out];exact HV2.out,HB2.out⟩
 case measure=>simp [intOf];omega):p:=h
theorem Tz139 {p:Prop} (h:p:=by
 exact decide_eq_true (show _≤_ by omega)):p:=h
theorem Tz140 {p:Prop} (h:p:=by
 simp only [List.mem_cons,Vn,or_false] at hk
 rcases hk with rfl|rfl
 ·exact .inl rfl
 ·by_cases hb:p.ub=z.po
  ·exact .inl hb
  ·exact .inr (hin _ (by simp [hb]))):p:=h
theorem Tz141 {p:Prop} (h:p:=by
 simp only [List.mem_cons,Vn,or_false] at hk
 rcases hk with rfl|rfl
 ·exact .inl rfl
 ·by_cases hb:p.nb=z.po
  ·exact .inl hb
  ·exact .inr (hin _ (by simp [hb]))):p:=h
theorem Tz142 {p:Prop} (h:p:=by
 simp only [List.mem_cons,Vn,or_false] at hk
 rcases hk with rfl|rfl
 ·exact .inl rfl
 ·by_cases hb:p.db=z.po
  ·exact .inl hb
  ·exact .inr (hin _ (by simp [hb]))):p:=h
theorem Tz143 {p:Prop} (h:p:=by
 go_wp2_with fail
 go_ret
 have e1:live (xs.take k)=live xs:=by rw [←HN.out,List.take_length]
 rw [e1] at HV ⊢
 exact ⟨A,cap,rfl,HV.out.sl Slt.len,HC.out⟩):p:=h
theorem Tz144 {p:Prop} (h:p:=by
 replace rX:=c4.keep rX nX
 replace rM:=c4.keep rM nM
 clear h4 c4 rG
 have rG:=H.out.2.1
 go_wp2_with fail
 go_ret
 exact RgRet.one (f:=fun v=>v) H.out CW.out _):p:=h
theorem Tz145 {p:Prop} (h:p:=by
 have h1:=sendP_dn (ds.take j) (ports L) M HX.out x (by rw [←HP.out];exact List.mem_of_getElem? (Jq hLk))
 rw [List.length_take] at h1
 have:=HY.out
 omega):p:=h
theorem Tz146 {p:Prop} (h:p:=by
 go_roundw
 case rel=>exact ⟨k+1,be,cp,B,by omega,by go_num,by rw [HS.out],HC.out,by rw [HS.out];exact HV.out,HB.out⟩
 case measure=>simp [intOf];omega):p:=h
theorem Tz147 {p:Prop} (h:p:=by
 replace H:=Vh h4
 replace CW:=Vh (CW.out.trans cT)
 replace rX:=cT.keep rX nX
 replace rM:=cT.keep rM nM
 clear h4 c4 rG cT
 have rG:=H.out.2.1
 exact Tz83):p:=h
theorem Tz148 {p:Prop} (h:p:=by
 rcases hr with ⟨q1,_⟩|⟨_,q2,q3⟩
 ·exact absurd rfl q1
 ·exact ⟨q2,q3⟩):p:=h
end Go.Proofs.YtadeoflkppiflaaGreatDoor
