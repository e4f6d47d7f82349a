/- Texts of the walk, one behind the other: Ahf. No condition. -/
import Derived.Test.YtadeoflkppiflaaGreatDoorSaa
import Derived.Test.YtadeoflkppiflaaGreatDoorSac
import Derived.Test.YtadeoflkppiflaaGreatDoorSae
import Derived.Test.YtadeoflkppiflaaGreatDoorSaf
import Derived.Test.YtadeoflkppiflaaGreatDoorSap
import Derived.BigQuiet
import Derived.Deep.Cut
import Derived.Deep.CutBlock
import Derived.Deep.CutRange
import Derived.Deep.DeepCutAuto
import Derived.Deep.QuietTactic
import Derived.Deep.RegionHeld3
import Derived.Deep.RegionWith
namespace Go.Proofs.YtadeoflkppiflaaGreatDoor
open Go.RowKit
set_option linter.unusedVariables false
set_option maxHeartbeats 1000000
attribute [local go_sem ↓] QA QQ QH Q8 QS QC Za QN Zs Zh Qm Ql heap_alloc Qo heap_setCell Qb ZF Z4 Z5 Z3 Zc ZB Zk ZI Zv ZM ZK ZN ZL
attribute [local go_sem] Qc Qa Qd Qj Qf Qe Qh Qi Qw ZE QZ Zq QO QG Q6 Q0 Q5 Zi Q9 QM QB QI Zj Q7 Qz QP Qt Qk Qs Qr Qq Qp Qg Zb Ze lit8 QF ZG Zr Zt ZC Zd Zy ZH Zz Qv ZA Zl Zm QE QD QR ZO JZ JY
attribute [local simp ↓] Qm Ql heap_alloc Qo heap_setCell Qb
attribute [local simp] Qc Qa Qd Qj Qf Qe Qh Qi Qw QB Qk Qs Qr Qq Qp Qg QF Qv QE QD QR QI JZ JY
attribute [local go_sem ↓] YE Yj Qcz Qc0
attribute [local go_sem] YM
section
theorem X2 (m:Ms) (b:Bool) (h:mg m=b) (w:World):Calls Tryz.prog 176 #[.agg (msc m)] w fun e w'=>e=.returned (.bool b)∧Chg [] w w':=h▸rgood_any m w
theorem X1 (k:Int) (b:Bool) (h:Z1 k=b) (w:World):Calls Tryz.prog 185 #[.int .i64 k] w fun e w'=>e=.returned (.bool b)∧w=w':=h▸YF k w
theorem setS_congr {S N:Nat} {s:Sta} {li st:Int} {l l':List Int} (h:l.length=8) (h':l'.length=8) (e:l=l'):setS S N s li st l h=setS S N s li st l' h':=by subst e;rfl
theorem Qfw {S N:Nat} {s:Sta} {m:Ms} {nx:Int} (hg:(mg m&&Z1 m.kd)=true) (hn:tb m.kd (Qn s.1 m.li).st=nx) (h0:nx≠0):hearF S N s m=(Qbz S N s m nx,(Z8 m.kd (Qn s.1 m.li) nx,0)):=by
 unfold hearF;rw [if_pos hg,hn,if_neg h0]
theorem Qe1 {S N:Nat} {s:Sta} {m:Ms} (hg:(mg m&&Z1 m.kd)=true) (hn:tb m.kd (Qn s.1 m.li).st=0):hearF S N s m=(s,([],16)):=by
 unfold hearF;rw [if_pos hg,if_pos hn]
theorem Qfx {S N:Nat} {s:Sta} {m:Ms} {nx:Int} (hg:(mg m&&Z1 m.kd)=true) (hn:tb m.kd (Qn s.1 m.li).st=nx) (h1:nx=1∨nx=2) (hk:m.kd=8∨m.kd=9∨m.kd=10):hearF S N s m=(setS S N s m.li nx m.l m.h,([],0)):=by
 rw [Qfw hg hn (by omega)]
 unfold Qbz Z8
 rw [if_neg (by omega),if_neg (by omega),if_neg (by omega),if_neg (by omega)]
 congr 1
 apply setS_congr
 unfold Yg
 rw [if_neg (by omega),if_neg (by omega)]
theorem Qgq {S N:Nat} {s:Sta} {m:Ms} (hg:(mg m&&Z1 m.kd)=true) (hn:tb m.kd (Qn s.1 m.li).st=10) (hk:m.kd=11):hearF S N s m=(Qcm s m.li,([],0)):=by
 rw [Qfw hg hn (by omega)]
 unfold Qbz Z8
 rw [if_pos rfl,if_neg (by omega),if_neg (by omega)]
theorem hear_done {S N:Nat} {s:Sta} {m:Ms} (hg:(mg m&&Z1 m.kd)=true) (hk:m.kd=14):hearF S N s m=(s,([],0)):=by
 rw [Qfw hg (nx:=11) (by rw [hk];rfl) (by omega)]
 unfold Qbz Z8
 rw [if_neg (by omega),if_pos rfl,if_neg (by omega),if_neg (by omega)]
theorem hear_ls {S N:Nat} {s:Sta} {m:Ms} (hg:(mg m&&Z1 m.kd)=true) (hk:m.kd=12∨m.kd=13) (h0:tb m.kd (Qn s.1 m.li).st≠0):hearF S N s m=(lsX S N s m.li (Qn s.1 m.li) (tb m.kd (Qn s.1 m.li).st),([Yf (if m.kd=12 then 6 else 7) (Qn s.1 m.li) (tb m.kd (Qn s.1 m.li).st==1&&m.kd==13)],0)):=by
 rw [Qfw hg rfl h0]
 have hv:tb m.kd (Qn s.1 m.li).st=10∨tb m.kd (Qn s.1 m.li).st=5∨tb m.kd (Qn s.1 m.li).st=8∨(tb m.kd (Qn s.1 m.li).st=1∧m.kd=13):=by
  revert h0
  rcases hk with h|h<;>rw [h]<;>unfold tb<;>simp<;>(repeat' split)<;>(try simp)<;>(try omega)
 have hw:(m.kd=12→tb m.kd (Qn s.1 m.li).st≠1):=by
  intro h
  rw [h]
  unfold tb
  simp
  (repeat' split)<;>simp
 generalize tb m.kd (Qn s.1 m.li).st=nx at *
 have ha:Z8 m.kd (Qn s.1 m.li) nx=[Yf (if m.kd=12 then 6 else 7) (Qn s.1 m.li) (nx==1&&m.kd==13)]:=by
  unfold Z8
  rcases hk with h|h
  ·have:=hw h
   rw [if_pos h,if_pos h,h];simp
  ·rw [if_neg (by omega),if_pos h,if_neg (by omega),h];simp
 rw [ha]
 congr 1
 unfold Qbz lsX
 by_cases h10:nx=10
 ·rw [if_pos h10,if_pos h10]
 ·rw [if_neg h10,if_neg h10,if_neg (by omega)]
  apply setS_congr
  unfold Yg
  by_cases h1:nx=1
  ·rw [if_neg (by omega),if_pos h1,if_pos (by omega)]
  ·rw [if_pos (by omega),if_neg h1]
theorem hhear_args {g a b S N:Nat} {s:Sta} (m:Ms) (gg:(mg m&&Z1 m.kd)=false) (w:World) (h:RAg w g a b S N s) (hu:s.2≤1000000000):Calls Tryz.prog 117 #[.pointer (some ⟨g,0,none⟩),.agg (msc m)] w (RgRet w g a b S N (hearF S N s m).1 (fun v=>.tuple #[v,.int .i64 (hearF S N s m).2.2]) (hearF S N s m).2.1):=by
 have H:=Vh h
 have rG:=h.2.1
 have CW:=Vh (Chg.refl [a,b] w)
 clear h
 have hm8:=m.h
 rw [show hearF S N s m=(s,([],1)) by unfold hearF;rw [if_neg (by simp [gg])]]
 cases g3:mg m
 ·skip
  exact Tz35
 ·have g4:Z1 m.kd=false:=by simpa [g3] using gg
  exact Tz35
theorem hhear_14 {g a b S N:Nat} {s:Sta} (m:Ms) (g3:mg m=true) (g4:Z1 m.kd=true) (hk:m.kd=14) (w:World) (h:RAg w g a b S N s) (hu:s.2≤1000000000):Calls Tryz.prog 117 #[.pointer (some ⟨g,0,none⟩),.agg (msc m)] w (RgRet w g a b S N (hearF S N s m).1 (fun v=>.tuple #[v,.int .i64 (hearF S N s m).2.2]) (hearF S N s m).2.1):=by
 have H:=Vh h
 have rG:=h.2.1
 have CW:=Vh (Chg.refl [a,b] w)
 clear h
 have hm8:=m.h
 rw [hear_done (by simp [g3,g4]) hk]
 have k14:(m.kd==14)=true:=by simp [hk]
 clear hk
 go_enter Tryz.func117,Tryz.ntmps117
 try dsimp only [List.append]
 go_wp2_with fail
 have cb:=(Chg.refl [] w).alloc (.cells (msc m) 38 (0,0))
 have rM:(w.alloc (.cells (msc m) 38 (0,0))).heap[w.heap.size]? =some (.cells (msc m) 38 (0,0)):=by simp
 have nM:=H.out.new2 (k:=w.heap.size) (Nat.le_refl _)
 have mM:=H.out.new3 (k:=w.heap.size) (Nat.le_refl _)
 replace H:=Vh (H.out.keep cb)
 replace CW:=Vh (CW.out.trans (Zp cb))
 clear cb
 generalize w.heap.size=pM at rM nM mM ⊢
 generalize w.alloc (.cells (msc m) 38 (0,0))=w1 at rM H CW ⊢
 have rG:=H.out.2.1
 have oM:=old rM
 refine (X2 m _ g3 w1).mono ?_
 rintro e w2 ⟨rfl,c2⟩
 replace H:=Vh (H.out.keep c2)
 replace CW:=Vh (CW.out.trans (Zp c2))
 replace rM:=c2.keep rM Vn
 clear c2
 have rG:=H.out.2.1
 have oM2:=old rM
 go_wp2_with (go_at_call 185;refine (X1 _ _ g4 _).mono ?_;rintro e w' ⟨rfl,rfl⟩)
 go_ret2
 exact RgRet.nil (f:=fun v=>.tuple #[v,.int .i64 0]) H.out CW.out
set_option maxHeartbeats 4000000 in
set_option maxRecDepth 100000 in
theorem hhear_8_4 {g a b S N:Nat} {s:Sta} (m:Ms) (g3:mg m=true) (g4:Z1 m.kd=true) (hk:m.kd=8) (hst:(Qn s.1 m.li).st=4) (w:World) (h:RAg w g a b S N s) (hu:s.2≤1000000000):Calls Tryz.prog 117 #[.pointer (some ⟨g,0,none⟩),.agg (msc m)] w (RgRet w g a b S N (hearF S N s m).1 (fun v=>.tuple #[v,.int .i64 (hearF S N s m).2.2]) (hearF S N s m).2.1):=by
 have H:=Vh h
 have rG:=h.2.1
 have CW:=Vh (Chg.refl [a,b] w)
 clear h
 have hm8:=m.h
 have hsl:=fun W' hW=>XD (g:=g) (a:=a) (b:=b) (S:=S) (N:=N) (s:=s) m.li W' hW
 rw [Qfx (by simp [g3,g4]) (show tb m.kd (Qn s.1 m.li).st=1 by rw [hk,hst];try rfl) (by omega) (by omega)]
 have k14:(m.kd==14)=false:=by simp [hk]
 have k8:(m.kd==8)=true:=by simp [hk]
 have k9:(m.kd==9)=false:=by simp [hk]
 have k10:(m.kd==10)=false:=by simp [hk]
 have k11:(m.kd==11)=false:=by simp [hk]
 have k12:(m.kd==12)=false:=by simp [hk]
 have k13:(m.kd==13)=false:=by simp [hk]
 have z4:((Qn s.1 m.li).st==4)=true:=by simp [hst]
 clear hk hst
 generalize Qn s.1 m.li=x at hsl z4
 go_enter Tryz.func117,Tryz.ntmps117
 try dsimp only [List.append]
 go_wp2_with fail
 have cb:=(Chg.refl [] w).alloc (.cells (msc m) 38 (0,0))
 have rM:(w.alloc (.cells (msc m) 38 (0,0))).heap[w.heap.size]? =some (.cells (msc m) 38 (0,0)):=by simp
 have nM:=H.out.new2 (k:=w.heap.size) (Nat.le_refl _)
 have mM:=H.out.new3 (k:=w.heap.size) (Nat.le_refl _)
 replace H:=Vh (H.out.keep cb)
 replace CW:=Vh (CW.out.trans (Zp cb))
 clear cb
 generalize w.heap.size=pM at rM nM mM ⊢
 generalize w.alloc (.cells (msc m) 38 (0,0))=w1 at rM H CW ⊢
 have rG:=H.out.2.1
 have oM:=old rM
 refine (X2 m _ g3 w1).mono ?_
 rintro e w2 ⟨rfl,c2⟩
 replace H:=Vh (H.out.keep c2)
 replace CW:=Vh (CW.out.trans (Zp c2))
 replace rM:=c2.keep rM Vn
 clear c2
 have rG:=H.out.2.1
 have oM2:=old rM
 go_wp2_with (go_at_call 185;refine (X1 _ _ g4 _).mono ?_;rintro e w' ⟨rfl,rfl⟩)
 refine (hsl w2 H.out).mono ?_
 clear hsl
 rintro e w3 ⟨rfl,c3⟩
 replace H:=Vh (H.out.keep c3)
 replace CW:=Vh (CW.out.trans (Zp c3))
 replace rM:=c3.keep rM Vn
 clear c3
 have rG:=H.out.2.1
 go_upto_region 7 with fail
 have cb:=(Chg.refl [] w3).alloc (.cells (slc x) 197 (0,0))
 have rX:(w3.alloc (.cells (slc x) 197 (0,0))).heap[w3.heap.size]? =some (.cells (slc x) 197 (0,0)):=by simp
 have nX:=H.out.new2 (k:=w3.heap.size) (Nat.le_refl _)
 have mX:=H.out.new3 (k:=w3.heap.size) (Nat.le_refl _)
 have uX:=CW.out.size
 replace H:=Vh (H.out.keep cb)
 replace CW:=Vh (CW.out.trans (Zp cb))
 replace rM:=cb.keep rM Vn
 clear cb
 generalize w3.heap.size=pX at rX nX mX uX ⊢
 generalize w3.alloc (.cells (slc x) 197 (0,0))=w5 at rX H CW rM ⊢
 have rG:=H.out.2.1
 have oX:=old rX
 have oM5:=old rM
 go_wp2_with fail
 have nG:=H.out.2.2.1
 go_region_held3 (fun w'=>w'.heap[g]? =some (.cells #[.pointer (some ⟨a,0,none⟩)] 126 (0,0))∧w'.heap[pM]? =some (.cells (msc m) 38 (0,0))∧w'.heap[pX]? =some (.cells (slc x) 197 (0,0))) (first |exact ⟨rG,rM,rX⟩|exact ⟨c4.keep rG nG,c4.keep rM nM,c4.keep rX nX⟩)
  (first
   |(go_at_call 170;refine (Ju (H.out.keep (Chg.drew (Chg.refl [] w5))) hu m.li 1 m.l m.h).mono ?_;rintro e w4 ⟨rfl,h4,c4⟩))
 all_goals
  replace H:=Vh h4
  replace CW:=Vh (CW.out.trans (Chg.trans (Chg.drew (Chg.refl [a,b] w5)) c4))
  replace rM:=c4.keep rM nM
  replace rX:=c4.keep rX nX
  clear h4 c4 rG
  have rG:=H.out.2.1
  go_wp2_with fail
  go_ret2
  exact RgRet.nil (f:=fun v=>.tuple #[v,.int .i64 0]) H.out CW.out
set_option maxHeartbeats 4000000 in
set_option maxRecDepth 100000 in
theorem hhear_9_4 {g a b S N:Nat} {s:Sta} (m:Ms) (g3:mg m=true) (g4:Z1 m.kd=true) (hk:m.kd=9) (hst:(Qn s.1 m.li).st=4) (w:World) (h:RAg w g a b S N s) (hu:s.2≤1000000000):Calls Tryz.prog 117 #[.pointer (some ⟨g,0,none⟩),.agg (msc m)] w (RgRet w g a b S N (hearF S N s m).1 (fun v=>.tuple #[v,.int .i64 (hearF S N s m).2.2]) (hearF S N s m).2.1):=by
 have H:=Vh h
 have rG:=h.2.1
 have CW:=Vh (Chg.refl [a,b] w)
 clear h
 have hm8:=m.h
 have hsl:=fun W' hW=>XD (g:=g) (a:=a) (b:=b) (S:=S) (N:=N) (s:=s) m.li W' hW
 rw [Qfx (by simp [g3,g4]) (show tb m.kd (Qn s.1 m.li).st=2 by rw [hk,hst];try rfl) (by omega) (by omega)]
 have k14:(m.kd==14)=false:=by simp [hk]
 have k8:(m.kd==8)=false:=by simp [hk]
 have k9:(m.kd==9)=true:=by simp [hk]
 have k10:(m.kd==10)=false:=by simp [hk]
 have k11:(m.kd==11)=false:=by simp [hk]
 have k12:(m.kd==12)=false:=by simp [hk]
 have k13:(m.kd==13)=false:=by simp [hk]
 have z4:((Qn s.1 m.li).st==4)=true:=by simp [hst]
 clear hk hst
 generalize Qn s.1 m.li=x at hsl z4
 exact Tz4
set_option maxHeartbeats 4000000 in
set_option maxRecDepth 100000 in
theorem hhear_10_5 {g a b S N:Nat} {s:Sta} (m:Ms) (g3:mg m=true) (g4:Z1 m.kd=true) (hk:m.kd=10) (hst:(Qn s.1 m.li).st=5) (w:World) (h:RAg w g a b S N s) (hu:s.2≤1000000000):Calls Tryz.prog 117 #[.pointer (some ⟨g,0,none⟩),.agg (msc m)] w (RgRet w g a b S N (hearF S N s m).1 (fun v=>.tuple #[v,.int .i64 (hearF S N s m).2.2]) (hearF S N s m).2.1):=by
 have H:=Vh h
 have rG:=h.2.1
 have CW:=Vh (Chg.refl [a,b] w)
 clear h
 have hm8:=m.h
 have hsl:=fun W' hW=>XD (g:=g) (a:=a) (b:=b) (S:=S) (N:=N) (s:=s) m.li W' hW
 rw [Qfx (by simp [g3,g4]) (show tb m.kd (Qn s.1 m.li).st=2 by rw [hk,hst];try rfl) (by omega) (by omega)]
 have k14:(m.kd==14)=false:=by simp [hk]
 have k8:(m.kd==8)=false:=by simp [hk]
 have k9:(m.kd==9)=false:=by simp [hk]
 have k10:(m.kd==10)=true:=by simp [hk]
 have k11:(m.kd==11)=false:=by simp [hk]
 have k12:(m.kd==12)=false:=by simp [hk]
 have k13:(m.kd==13)=false:=by simp [hk]
 have z5:((Qn s.1 m.li).st==5)=true:=by simp [hst]
 clear hk hst
 generalize Qn s.1 m.li=x at hsl z5
 exact Tz4
set_option maxHeartbeats 4000000 in
set_option maxRecDepth 100000 in
theorem hhear_10_6 {g a b S N:Nat} {s:Sta} (m:Ms) (g3:mg m=true) (g4:Z1 m.kd=true) (hk:m.kd=10) (hst:(Qn s.1 m.li).st=6) (w:World) (h:RAg w g a b S N s) (hu:s.2≤1000000000):Calls Tryz.prog 117 #[.pointer (some ⟨g,0,none⟩),.agg (msc m)] w (RgRet w g a b S N (hearF S N s m).1 (fun v=>.tuple #[v,.int .i64 (hearF S N s m).2.2]) (hearF S N s m).2.1):=by
 have H:=Vh h
 have rG:=h.2.1
 have CW:=Vh (Chg.refl [a,b] w)
 clear h
 have hm8:=m.h
 have hsl:=fun W' hW=>XD (g:=g) (a:=a) (b:=b) (S:=S) (N:=N) (s:=s) m.li W' hW
 rw [Qfx (by simp [g3,g4]) (show tb m.kd (Qn s.1 m.li).st=2 by rw [hk,hst];try rfl) (by omega) (by omega)]
 have k14:(m.kd==14)=false:=by simp [hk]
 have k8:(m.kd==8)=false:=by simp [hk]
 have k9:(m.kd==9)=false:=by simp [hk]
 have k10:(m.kd==10)=true:=by simp [hk]
 have k11:(m.kd==11)=false:=by simp [hk]
 have k12:(m.kd==12)=false:=by simp [hk]
 have k13:(m.kd==13)=false:=by simp [hk]
 have z5:((Qn s.1 m.li).st==5)=false:=by simp [hst]
 have z6:((Qn s.1 m.li).st==6)=true:=by simp [hst]
 clear hk hst
 generalize Qn s.1 m.li=x at hsl z5 z6
 exact Tz4
set_option maxHeartbeats 4000000 in
set_option maxRecDepth 100000 in
theorem hhear_11_7 {g a b S N:Nat} {s:Sta} (m:Ms) (g3:mg m=true) (g4:Z1 m.kd=true) (hk:m.kd=11) (hst:(Qn s.1 m.li).st=7) (w:World) (h:RAg w g a b S N s) (hu:s.2≤1000000000):Calls Tryz.prog 117 #[.pointer (some ⟨g,0,none⟩),.agg (msc m)] w (RgRet w g a b S N (hearF S N s m).1 (fun v=>.tuple #[v,.int .i64 (hearF S N s m).2.2]) (hearF S N s m).2.1):=by
 have H:=Vh h
 have rG:=h.2.1
 have CW:=Vh (Chg.refl [a,b] w)
 clear h
 have hm8:=m.h
 have hsl:=fun W' hW=>XD (g:=g) (a:=a) (b:=b) (S:=S) (N:=N) (s:=s) m.li W' hW
 rw [Qgq (by simp [g3,g4]) (show tb m.kd (Qn s.1 m.li).st=10 by rw [hk,hst];try rfl) hk]
 have k14:(m.kd==14)=false:=by simp [hk]
 have k8:(m.kd==8)=false:=by simp [hk]
 have k9:(m.kd==9)=false:=by simp [hk]
 have k10:(m.kd==10)=false:=by simp [hk]
 have k11:(m.kd==11)=true:=by simp [hk]
 have k12:(m.kd==12)=false:=by simp [hk]
 have k13:(m.kd==13)=false:=by simp [hk]
 have z7:((Qn s.1 m.li).st==7)=true:=by simp [hst]
 clear hk hst
 generalize Qn s.1 m.li=x at hsl z7
 exact Tz5
set_option maxHeartbeats 4000000 in
set_option maxRecDepth 100000 in
theorem hhear_11_9 {g a b S N:Nat} {s:Sta} (m:Ms) (g3:mg m=true) (g4:Z1 m.kd=true) (hk:m.kd=11) (hst:(Qn s.1 m.li).st=9) (w:World) (h:RAg w g a b S N s) (hu:s.2≤1000000000):Calls Tryz.prog 117 #[.pointer (some ⟨g,0,none⟩),.agg (msc m)] w (RgRet w g a b S N (hearF S N s m).1 (fun v=>.tuple #[v,.int .i64 (hearF S N s m).2.2]) (hearF S N s m).2.1):=by
 have H:=Vh h
 have rG:=h.2.1
 have CW:=Vh (Chg.refl [a,b] w)
 clear h
 have hm8:=m.h
 have hsl:=fun W' hW=>XD (g:=g) (a:=a) (b:=b) (S:=S) (N:=N) (s:=s) m.li W' hW
 rw [Qgq (by simp [g3,g4]) (show tb m.kd (Qn s.1 m.li).st=10 by rw [hk,hst];try rfl) hk]
 have k14:(m.kd==14)=false:=by simp [hk]
 have k8:(m.kd==8)=false:=by simp [hk]
 have k9:(m.kd==9)=false:=by simp [hk]
 have k10:(m.kd==10)=false:=by simp [hk]
 have k11:(m.kd==11)=true:=by simp [hk]
 have k12:(m.kd==12)=false:=by simp [hk]
 have k13:(m.kd==13)=false:=by simp [hk]
 have z7:((Qn s.1 m.li).st==7)=false:=by simp [hst]
 have z9:((Qn s.1 m.li).st==9)=true:=by simp [hst]
 clear hk hst
 generalize Qn s.1 m.li=x at hsl z7 z9
 exact Tz5
set_option maxHeartbeats 4000000 in
set_option maxRecDepth 100000 in
theorem hhear_11_8 {g a b S N:Nat} {s:Sta} (m:Ms) (g3:mg m=true) (g4:Z1 m.kd=true) (hk:m.kd=11) (hst:(Qn s.1 m.li).st=8) (w:World) (h:RAg w g a b S N s) (hu:s.2≤1000000000):Calls Tryz.prog 117 #[.pointer (some ⟨g,0,none⟩),.agg (msc m)] w (RgRet w g a b S N (hearF S N s m).1 (fun v=>.tuple #[v,.int .i64 (hearF S N s m).2.2]) (hearF S N s m).2.1):=by
 have H:=Vh h
 have rG:=h.2.1
 have CW:=Vh (Chg.refl [a,b] w)
 clear h
 have hm8:=m.h
 have hsl:=fun W' hW=>XD (g:=g) (a:=a) (b:=b) (S:=S) (N:=N) (s:=s) m.li W' hW
 rw [Qgq (by simp [g3,g4]) (show tb m.kd (Qn s.1 m.li).st=10 by rw [hk,hst];try rfl) hk]
 have k14:(m.kd==14)=false:=by simp [hk]
 have k8:(m.kd==8)=false:=by simp [hk]
 have k9:(m.kd==9)=false:=by simp [hk]
 have k10:(m.kd==10)=false:=by simp [hk]
 have k11:(m.kd==11)=true:=by simp [hk]
 have k12:(m.kd==12)=false:=by simp [hk]
 have k13:(m.kd==13)=false:=by simp [hk]
 have z7:((Qn s.1 m.li).st==7)=false:=by simp [hst]
 have z9:((Qn s.1 m.li).st==9)=false:=by simp [hst]
 have z8:((Qn s.1 m.li).st==8)=true:=by simp [hst]
 clear hk hst
 generalize Qn s.1 m.li=x at hsl z7 z9 z8
 exact Tz5
set_option maxHeartbeats 4000000 in
set_option maxRecDepth 100000 in
theorem hhear_8_no {g a b S N:Nat} {s:Sta} (m:Ms) (g3:mg m=true) (g4:Z1 m.kd=true) (hk:m.kd=8) (hst:(Qn s.1 m.li).st≠4) (w:World) (h:RAg w g a b S N s) (hu:s.2≤1000000000):Calls Tryz.prog 117 #[.pointer (some ⟨g,0,none⟩),.agg (msc m)] w (RgRet w g a b S N (hearF S N s m).1 (fun v=>.tuple #[v,.int .i64 (hearF S N s m).2.2]) (hearF S N s m).2.1):=by
 have H:=Vh h
 have rG:=h.2.1
 have CW:=Vh (Chg.refl [a,b] w)
 clear h
 have hm8:=m.h
 have hsl:=fun W' hW=>XD (g:=g) (a:=a) (b:=b) (S:=S) (N:=N) (s:=s) m.li W' hW
 rw [Qe1 (by simp [g3,g4]) (by rw [hk];unfold tb;simp [hst])]
 have k14:(m.kd==14)=false:=by simp [hk]
 have k8:(m.kd==8)=true:=by simp [hk]
 have k9:(m.kd==9)=false:=by simp [hk]
 exact Tz94
set_option maxHeartbeats 4000000 in
set_option maxRecDepth 100000 in
theorem hhear_9_no {g a b S N:Nat} {s:Sta} (m:Ms) (g3:mg m=true) (g4:Z1 m.kd=true) (hk:m.kd=9) (hst:(Qn s.1 m.li).st≠4) (w:World) (h:RAg w g a b S N s) (hu:s.2≤1000000000):Calls Tryz.prog 117 #[.pointer (some ⟨g,0,none⟩),.agg (msc m)] w (RgRet w g a b S N (hearF S N s m).1 (fun v=>.tuple #[v,.int .i64 (hearF S N s m).2.2]) (hearF S N s m).2.1):=by
 have H:=Vh h
 have rG:=h.2.1
 have CW:=Vh (Chg.refl [a,b] w)
 clear h
 have hm8:=m.h
 have hsl:=fun W' hW=>XD (g:=g) (a:=a) (b:=b) (S:=S) (N:=N) (s:=s) m.li W' hW
 rw [Qe1 (by simp [g3,g4]) (by rw [hk];unfold tb;simp [hst])]
 have k14:(m.kd==14)=false:=by simp [hk]
 have k8:(m.kd==8)=false:=by simp [hk]
 have k9:(m.kd==9)=true:=by simp [hk]
 exact Tz94
set_option maxHeartbeats 4000000 in
set_option maxRecDepth 100000 in
theorem hhear_10_no {g a b S N:Nat} {s:Sta} (m:Ms) (g3:mg m=true) (g4:Z1 m.kd=true) (hk:m.kd=10) (hst:(Qn s.1 m.li).st≠5∧(Qn s.1 m.li).st≠6) (w:World) (h:RAg w g a b S N s) (hu:s.2≤1000000000):Calls Tryz.prog 117 #[.pointer (some ⟨g,0,none⟩),.agg (msc m)] w (RgRet w g a b S N (hearF S N s m).1 (fun v=>.tuple #[v,.int .i64 (hearF S N s m).2.2]) (hearF S N s m).2.1):=by
 have H:=Vh h
 have rG:=h.2.1
 have CW:=Vh (Chg.refl [a,b] w)
 clear h
 have hm8:=m.h
 have hsl:=fun W' hW=>XD (g:=g) (a:=a) (b:=b) (S:=S) (N:=N) (s:=s) m.li W' hW
 rw [Qe1 (by simp [g3,g4]) (by rw [hk];unfold tb;simp [hst])]
 have k14:(m.kd==14)=false:=by simp [hk]
 have k8:(m.kd==8)=false:=by simp [hk]
 have k9:(m.kd==9)=false:=by simp [hk]
 have k10:(m.kd==10)=true:=by simp [hk]
 have k11:(m.kd==11)=false:=by simp [hk]
 have k12:(m.kd==12)=false:=by simp [hk]
 have k13:(m.kd==13)=false:=by simp [hk]
 have z5:((Qn s.1 m.li).st==5)=false:=by simp [hst]
 have z6:((Qn s.1 m.li).st==6)=false:=by simp [hst]
 clear hk hst
 generalize Qn s.1 m.li=x at hsl z5 z6
 exact Tz3
set_option maxHeartbeats 4000000 in
set_option maxRecDepth 100000 in
theorem hhear_11_no {g a b S N:Nat} {s:Sta} (m:Ms) (g3:mg m=true) (g4:Z1 m.kd=true) (hk:m.kd=11) (hst:(Qn s.1 m.li).st≠7∧(Qn s.1 m.li).st≠9∧(Qn s.1 m.li).st≠8) (w:World) (h:RAg w g a b S N s) (hu:s.2≤1000000000):Calls Tryz.prog 117 #[.pointer (some ⟨g,0,none⟩),.agg (msc m)] w (RgRet w g a b S N (hearF S N s m).1 (fun v=>.tuple #[v,.int .i64 (hearF S N s m).2.2]) (hearF S N s m).2.1):=by
 have H:=Vh h
 have rG:=h.2.1
 have CW:=Vh (Chg.refl [a,b] w)
 clear h
 have hm8:=m.h
 have hsl:=fun W' hW=>XD (g:=g) (a:=a) (b:=b) (S:=S) (N:=N) (s:=s) m.li W' hW
 rw [Qe1 (by simp [g3,g4]) (by rw [hk];unfold tb;simp [hst])]
 have k14:(m.kd==14)=false:=by simp [hk]
 have k8:(m.kd==8)=false:=by simp [hk]
 have k9:(m.kd==9)=false:=by simp [hk]
 have k10:(m.kd==10)=false:=by simp [hk]
 have k11:(m.kd==11)=true:=by simp [hk]
 have k12:(m.kd==12)=false:=by simp [hk]
 have k13:(m.kd==13)=false:=by simp [hk]
 have z7:((Qn s.1 m.li).st==7)=false:=by simp [hst]
 have z9:((Qn s.1 m.li).st==9)=false:=by simp [hst]
 have z8:((Qn s.1 m.li).st==8)=false:=by simp [hst]
 clear hk hst
 generalize Qn s.1 m.li=x at hsl z7 z9 z8
 exact Tz3
set_option maxHeartbeats 4000000 in
set_option maxRecDepth 100000 in
theorem hhear_12 {g a b S N:Nat} {s:Sta} (m:Ms) (g3:mg m=true) (g4:Z1 m.kd=true) (hk:m.kd=12) (w:World) (h:RAg w g a b S N s) (hu:s.2≤1000000000):Calls Tryz.prog 117 #[.pointer (some ⟨g,0,none⟩),.agg (msc m)] w (RgRet w g a b S N (hearF S N s m).1 (fun v=>.tuple #[v,.int .i64 (hearF S N s m).2.2]) (hearF S N s m).2.1):=by
 have H:=Vh h
 have rG:=h.2.1
 have CW:=Vh (Chg.refl [a,b] w)
 clear h
 have hm8:=m.h
 have hsl:=fun W' hW=>XD (g:=g) (a:=a) (b:=b) (S:=S) (N:=N) (s:=s) m.li W' hW
 have hxl:(Qn s.1 m.li).st≠0→(Qn s.1 m.li).li=m.li:=fun h=>(Qeh h).1
 have hls:=fun W' hW=>hlose_any (g:=g) (a:=a) (b:=b) (S:=S) (N:=N) (s:=s) m.li (Qn s.1 m.li) rfl hxl W' hW hu
 obtain ⟨r,hr⟩:∃r,r=hearF S N s m:=⟨_,rfl⟩
 rw [←hr]
 have hr0:tb 12 (Qn s.1 m.li).st=0→r=(s,([],16)):=fun h=>by rw [hr];exact Qe1 (by simp [g3,g4]) (by rw [hk];exact h)
 have hr1:tb 12 (Qn s.1 m.li).st≠0→r=(lsX S N s m.li (Qn s.1 m.li) (tb 12 (Qn s.1 m.li).st),([Yf 6 (Qn s.1 m.li) (tb 12 (Qn s.1 m.li).st==1&&12==13)],0)):=fun h=>by
  rw [hr,hear_ls (by simp [g3,g4]) (by omega) (by rw [hk];exact h),hk];rfl
 clear hr
 have k14:(m.kd==14)=false:=by simp [hk]
 have k8:(m.kd==8)=false:=by simp [hk]
 have k9:(m.kd==9)=false:=by simp [hk]
 have k10:(m.kd==10)=false:=by simp [hk]
 have k11:(m.kd==11)=false:=by simp [hk]
 have k12:(m.kd==12)=true:=by simp [hk]
 have k13:(m.kd==13)=false:=by simp [hk]
 exact Tz16
set_option maxHeartbeats 4000000 in
set_option maxRecDepth 100000 in
theorem hhear_13 {g a b S N:Nat} {s:Sta} (m:Ms) (g3:mg m=true) (g4:Z1 m.kd=true) (hk:m.kd=13) (w:World) (h:RAg w g a b S N s) (hu:s.2≤1000000000):Calls Tryz.prog 117 #[.pointer (some ⟨g,0,none⟩),.agg (msc m)] w (RgRet w g a b S N (hearF S N s m).1 (fun v=>.tuple #[v,.int .i64 (hearF S N s m).2.2]) (hearF S N s m).2.1):=by
 have H:=Vh h
 have rG:=h.2.1
 have CW:=Vh (Chg.refl [a,b] w)
 clear h
 have hm8:=m.h
 have hsl:=fun W' hW=>XD (g:=g) (a:=a) (b:=b) (S:=S) (N:=N) (s:=s) m.li W' hW
 have hxl:(Qn s.1 m.li).st≠0→(Qn s.1 m.li).li=m.li:=fun h=>(Qeh h).1
 have hls:=fun W' hW=>hshare_any (g:=g) (a:=a) (b:=b) (S:=S) (N:=N) (s:=s) m.li (Qn s.1 m.li) rfl hxl W' hW hu
 obtain ⟨r,hr⟩:∃r,r=hearF S N s m:=⟨_,rfl⟩
 rw [←hr]
 have hr0:tb 13 (Qn s.1 m.li).st=0→r=(s,([],16)):=fun h=>by rw [hr];exact Qe1 (by simp [g3,g4]) (by rw [hk];exact h)
 have hr1:tb 13 (Qn s.1 m.li).st≠0→r=(lsX S N s m.li (Qn s.1 m.li) (tb 13 (Qn s.1 m.li).st),([Yf 7 (Qn s.1 m.li) (tb 13 (Qn s.1 m.li).st==1&&13==13)],0)):=fun h=>by
  rw [hr,hear_ls (by simp [g3,g4]) (by omega) (by rw [hk];exact h),hk];rfl
 clear hr
 have k14:(m.kd==14)=false:=by simp [hk]
 have k8:(m.kd==8)=false:=by simp [hk]
 have k9:(m.kd==9)=false:=by simp [hk]
 have k10:(m.kd==10)=false:=by simp [hk]
 have k11:(m.kd==11)=false:=by simp [hk]
 have k12:(m.kd==12)=false:=by simp [hk]
 have k13:(m.kd==13)=true:=by simp [hk]
 exact Tz16
theorem hhear_any {g a b S N:Nat} {s:Sta} (m:Ms) (w:World) (h:RAg w g a b S N s) (hu:s.2≤1000000000):Calls Tryz.prog 117 #[.pointer (some ⟨g,0,none⟩),.agg (msc m)] w (RgRet w g a b S N (hearF S N s m).1 (fun v=>.tuple #[v,.int .i64 (hearF S N s m).2.2]) (hearF S N s m).2.1):=by
 cases gg:(mg m&&Z1 m.kd) with
 |false=>exact hhear_args m gg w h hu
 |true=>
  have g3:mg m=true:=(Bool.and_eq_true_iff.mp gg).1
  have g4:Z1 m.kd=true:=(Bool.and_eq_true_iff.mp gg).2
  have hr:8≤m.kd∧m.kd≤14:=by simpa [Z1] using g4
  have hc:m.kd=8∨m.kd=9∨m.kd=10∨m.kd=11∨m.kd=12∨m.kd=13∨m.kd=14:=by omega
  rcases hc with hk|hk|hk|hk|hk|hk|hk
  ·by_cases z4:(Qn s.1 m.li).st=4
   ·exact hhear_8_4 m g3 g4 hk z4 w h hu
   exact hhear_8_no m g3 g4 hk z4 w h hu
  ·by_cases z4:(Qn s.1 m.li).st=4
   ·exact hhear_9_4 m g3 g4 hk z4 w h hu
   exact hhear_9_no m g3 g4 hk z4 w h hu
  ·by_cases z5:(Qn s.1 m.li).st=5
   ·exact hhear_10_5 m g3 g4 hk z5 w h hu
   by_cases z6:(Qn s.1 m.li).st=6
   ·exact hhear_10_6 m g3 g4 hk z6 w h hu
   exact hhear_10_no m g3 g4 hk (by refine ⟨z5,z6⟩) w h hu
  ·by_cases z7:(Qn s.1 m.li).st=7
   ·exact hhear_11_7 m g3 g4 hk z7 w h hu
   by_cases z9:(Qn s.1 m.li).st=9
   ·exact hhear_11_9 m g3 g4 hk z9 w h hu
   by_cases z8:(Qn s.1 m.li).st=8
   ·exact hhear_11_8 m g3 g4 hk z8 w h hu
   exact hhear_11_no m g3 g4 hk (by refine ⟨z7,z9,z8⟩) w h hu
  ·exact hhear_12 m g3 g4 hk w h hu
  ·exact hhear_13 m g3 g4 hk w h hu
  ·exact hhear_14 m g3 g4 hk w h hu
end
end Go.Proofs.YtadeoflkppiflaaGreatDoor
