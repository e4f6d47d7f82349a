/- Texts of the walk, one behind the other: Dire Dirf Mfa Mfb Mfc Mfd Mfe. No condition. -/
import Derived.Test.YtlidfghgjjffaaaGreatDoorMQaa
import Derived.Test.YtlidfghgjjffaaaGreatDoorMQac
import Derived.Test.YtlidfghgjjffaaaGreatDoorMQae
import Derived.Test.YtlidfghgjjffaaaGreatDoorMQag
import Derived.BigQuiet
import Derived.Deep.Cut
import Derived.Deep.CutBlock
import Derived.Deep.CutRange
import Derived.Deep.DeepCutAuto
import Derived.Deep.QuietTactic
import Derived.Deep.RegionHeld3
import Derived.Deep.RegionWith
namespace Go.Proofs.YtlidfghgjjffaaaGreatDoor
open Go.RowKit
set_option linter.unusedVariables false
set_option maxHeartbeats 1000000
set_option maxRecDepth 100000
attribute [local simp ↓] Qk Qh heap_alloc Ql heap_setCell Qc
attribute [local go_sem ↓] Qa3 Qa4 Qa2 Qa1 Qa6 Qa5 Qa0 Qbg
attribute [local go_sem] Y9 Qax Y8 XQ XT Zh Jo Yf Qbh Z9 Zp Zo Zm Zr Zq Zl Zd Zc ZD ZA Jj Yc
attribute [local simp] Zh ZA Zp Zo Zm Zr Zq Zl Zd Zc ZD
attribute [local go_sem ↓] Jl Yb Jk Ya Yg
attribute [local go_sem] Jh Jg Ye Ji QQ QU YH
attribute [local simp] Yg QQ QU QD Z9
section
attribute [local go_sem ↓] Qv QF Qx QP Zi QG Qs Zg Q7 ZP Zu Qk Qh heap_alloc Ql heap_setCell Qc Xq Xp Xy Xx
attribute [local go_sem] Qb Qa Qe Qi Qd Qg Qf Qt Zk Zf ZM QB Qw QN QL QM Q6 ZN QJ QA Qr QD QX QI Qq QC Qp Qj Qo Qn Qm Zv lit8 QH ZO Zx Zy
attribute [local simp] Qb Qa Qe Qi Qd Qg Qf Qt Qr Qj Qo Qn Qm QH
theorem wideDd:Wide Tryz.prog 258 6:=⟨⟨_,Tryz.underlying258,by rfl⟩,by kernel_rfl⟩
theorem loadDd (x:Value):Instr.loadAt 258 x=Qdf 258 6 x:=rfl
theorem storeDd (x y:Value):Instr.storeAt 258 x y=Qar 258 6 x y:=rfl
def ddv:Array Value:=#[.nilFunc,.func (.func 203) #[] #[],.func (.func 204) #[] #[],.func (.func 205) #[] #[],.func (.func 206) #[] #[],.func (.func 207) #[] #[]]
theorem ddv_one:Qab ddv:=Qp [.nilFunc,.func (.func 203) #[] #[],.func (.func 204) #[] #[],.func (.func 205) #[] #[],.func (.func 206) #[] #[],.func (.func 207) #[] #[]] rfl
theorem ddv_lit:(#[.nilFunc,.func (.func 203) #[] #[],.func (.func 204) #[] #[],.func (.func 205) #[] #[],.func (.func 206) #[] #[],.func (.func 207) #[] #[]]:Array Value)=ddv:=rfl
attribute [local go_sem ↓] loadDd storeDd ddv_lit
attribute [local go_sem] wideDd ddv_one
theorem ddeeds_any (w:World):Calls Tryz.prog 153 #[] w fun e w'=>e=.returned (.agg ddv)∧Chg [] w w':=by
 have hz:ddv.size=6:=rfl
 go_enter Tryz.func153,Tryz.ntmps153
 try dsimp only [List.append]
 go_wp2
 refine bodyPost_ret (v:=.agg ddv) ?_ (by rfl) ?_
 ·have hb:(w.alloc (.cells ddv 258)).heap[w.heap.size]? =some (.cells ddv 258 (0,0)):=by simp
  have:=run_loadVar_row (P:=Tryz.prog) (w.alloc (.cells ddv 258)) w.heap.size 258 258 ddv (0,0) _ hb Tryz.underlying258 rfl (by kernel_rfl)
  simp [results,asAddr,this]
 exact Tz2
theorem ddv_at1 (W:World):(Instr.index 258 (.agg ddv) (.int .i64 1)).run Tryz.prog W=.ok (.func (.func 203) #[] #[]) W:=by rfl
theorem ddv_at2 (W:World):(Instr.index 258 (.agg ddv) (.int .i64 2)).run Tryz.prog W=.ok (.func (.func 204) #[] #[]) W:=by rfl
theorem ddv_at3 (W:World):(Instr.index 258 (.agg ddv) (.int .i64 3)).run Tryz.prog W=.ok (.func (.func 205) #[] #[]) W:=by rfl
theorem ddv_at4 (W:World):(Instr.index 258 (.agg ddv) (.int .i64 4)).run Tryz.prog W=.ok (.func (.func 206) #[] #[]) W:=by rfl
theorem ddv_at5 (W:World):(Instr.index 258 (.agg ddv) (.int .i64 5)).run Tryz.prog W=.ok (.func (.func 207) #[] #[]) W:=by rfl
def En3 (w:World) (r:(En×List Sd)×Int):Ending→World→Prop:=fun e w'=>∃A c,e=.returned (.tuple #[.agg (ec r.1.1),.slice A r.1.2.length c,.int .i64 r.2])∧Sl w' 13 A r.1.2.length (cat Sd.enc r.1.2)∧(∀a,A=some a→w.heap.size≤a.block)∧Chg [] w w'
theorem Qbe (m:Ms) (b:Bool) (h:mg m=b) (w:World) (ht:Tab w):Calls Tryz.prog 151 #[.agg (msc m)] w fun e w'=>e=.returned (.bool b)∧Chg [] w w':=h▸Qif m w ht
theorem asks_at (k:Int) (b:Bool) (h:Qeq k=b) (w:World):Calls Tryz.prog 152 #[.int .i64 k] w fun e w'=>e=.returned (.bool b)∧w=w':=h▸asks_any k w
theorem Qen (k:Int) (b:Bool) (h:Qbt k=b) (w:World):Calls Tryz.prog 158 #[.int .i64 k] w fun e w'=>e=.returned (.bool b)∧w=w':=h▸answers_any k w
theorem En3.err (w w':World) (n:Int) (h:Chg [] w w'):En3 w ((enZ,[]),n) (.returned (.tuple #[.agg (ec enZ),.slice none 0 0,.int .i64 n])) w':=⟨none,0,rfl,⟨rfl,.inl rfl⟩,by simp,h⟩
theorem XU {P:Program} {f:FuncId} {fn:Func} {c:Code} (hf:P.funcs[f]? =some fn) (hname:(fn.name== "runtime.NumGoroutine")=false) (hb:fn.body=some c) (args:Array Value) (w:World):
 (callFunc f args).run P w=.ok (.enter f args) w:=by
 have h1:fn.name≠ "runtime.NumGoroutine" :=by simpa using hname
 simp [callFunc,hf,h1,hb]
theorem deed_of (x:En) (c:Int) (m:Ms) (h:Qeq m.kd=true):∃K:Nat,(∀W,(Instr.index 258 (.agg ddv) (.int .i64 m.kd)).run Tryz.prog W=.ok (.func (.func K) #[] #[]) W)∧
 (∀args W,(callFunc K args).run Tryz.prog W=.ok (.enter K args) W)∧∀W,Old W 0→Calls Tryz.prog K #[.agg (ec x),.int .i64 c,.agg (msc m)] W (EnSds W (YT x c m)):=by
 have hk:m.kd=1∨m.kd=2∨m.kd=3∨m.kd=4∨m.kd=5:=by simp [Qeq] at h;omega
 rcases hk with hk|hk|hk|hk|hk
 ·exact ⟨_,by rw [hk];exact ddv_at1,XU Tryz.func203 (by kernel_rfl) rfl,fun W h0=>by rw [show YT x c m=Qe3 x c m by simp [YT,hk]];exact dgetS_any x c m W h0⟩
 ·exact ⟨_,by rw [hk];exact ddv_at2,XU Tryz.func204 (by kernel_rfl) rfl,fun W h0=>by rw [show YT x c m=Qgk x c m by simp [YT,hk]];exact dgetM_any x c m W h0⟩
 ·exact ⟨_,by rw [hk];exact ddv_at3,XU Tryz.func205 (by kernel_rfl) rfl,fun W h0=>by rw [show YT x c m=putE x c m by simp [YT,hk]];exact dput_any x c m W h0⟩
 ·exact ⟨_,by rw [hk];exact ddv_at4,XU Tryz.func206 (by kernel_rfl) rfl,fun W h0=>by rw [show YT x c m=cleanE x c m by simp [YT,hk]];exact dclean_any x c m W h0⟩
 ·exact ⟨_,by rw [hk];exact ddv_at5,XU Tryz.func207 (by kernel_rfl) rfl,fun W h0=>by rw [show YT x c m=wipeE x c m by simp [YT,hk]];exact dwipe_any x c m W h0⟩
set_option maxHeartbeats 8000000 in
theorem dask_any (x:En) (c:Int) (m:Ms) (w:World) (ht:Tab w):Calls Tryz.prog 113 #[.agg (ec x),.int .i64 c,.agg (msc m)] w (En3 w (askE x c m)):=by
 cases g1:JN x
 ·skip
  rw [show askE x c m=((enZ,[]),1) from by simp [askE,Qd3,g1]]
  go_enter Tryz.func113,Tryz.ntmps113
  exact Tz23
 cases g2:isC c
 ·skip
  rw [show askE x c m=((enZ,[]),1) from by simp [askE,Qd3,g2]]
  go_enter Tryz.func113,Tryz.ntmps113
  exact Tz19
 cases g3:mg m
 ·skip
  rw [show askE x c m=((enZ,[]),1) from by simp [askE,Qd3,g3]]
  go_enter Tryz.func113,Tryz.ntmps113
  exact Tz14
 cases g4:Qeq m.kd
 ·skip
  rw [show askE x c m=((enZ,[]),1) from by simp [askE,Qd3,g4]]
  go_enter Tryz.func113,Tryz.ntmps113
  try dsimp only [List.append]
  go_wp2_with fail
  refine Xa (w:=w) (b1:=w.heap.size) (x1:=.cells (ec (x)) 107 (0,0)) (b2:=w.heap.size+1) (x2:=.cells (msc m) 184 (0,0)) (b3:=w.heap.size+2) (x3:=.cells (ec (enZ)) 107 (0,0)) Cz0 (by simp [*]) (by simp [*]) (by simp [*]) fun w1 C1 rE rM rR=>?_
  have oE:=old rE
  have oM:=old rM
  have oR:=old rR
  refine (Y6 x _ g1 w1).mono ?_
  rintro e w3 ⟨rfl,c3⟩
  have rE3:=c3.keep rE (by simp)
  have rM3:=c3.keep rM (by simp)
  have rR3:=c3.keep rR (by simp)
  have C3:=C1.trans c3
  have o3:=ht.keep C3 (by simp)
  clear rE rM rR oE oM oR C1 c3
  have oE3:=old rE3
  have oM3:=old rM3
  have oR3:=old rR3
  go_wp2_with ((go_at_call 150;refine (JA _ _ g2 _).mono ?_;rintro e w' ⟨rfl,rfl⟩))
  refine (Qbe m _ g3 w3 o3).mono ?_
  rintro e w4 ⟨rfl,c4⟩
  have rE4:=c4.keep rE3 (by simp)
  have rM4:=c4.keep rM3 (by simp)
  have rR4:=c4.keep rR3 (by simp)
  have C4:=C3.trans c4
  have o4:=ht.old0.chg C4
  clear rE3 rM3 rR3 oE3 oM3 oR3 C3 c4 o3
  have oE4:=old rE4
  have oM4:=old rM4
  have oR4:=old rR4
  go_wp2_with (go_at_call 152;refine (asks_at _ _ g4 _).mono ?_;rintro e w' ⟨rfl,rfl⟩)
  refine bodyPost_ret (v:=.tuple #[.agg (ec enZ),.slice none 0 0,.int .i64 1]) ?_ (by rfl) ?_
  ·exact XA (by rfl) _ _ (w.heap.size+2) enZ (0,0) (by rfl) (by simp [rR4];try rfl) _ _ (by rfl) (by rfl)
  exact En3.err _ _ _ Cz0
 have ga:Qd3 x c m=true:=by simp [Qd3,g1,g2,g3,g4]
 by_cases hb:x.bu=0
 ·have t1:(x.bu !=0)=false:=by simp [hb]
  cases hh:x.he
  ·skip
   rw [show askE x c m=((enZ,[]),16) from by simp [askE,ga,hb,hh]]
   clear ga
   go_enter Tryz.func113,Tryz.ntmps113
   try dsimp only [List.append]
   go_wp2_with fail
   refine Xa (w:=w) (b1:=w.heap.size) (x1:=.cells (ec (x)) 107 (0,0)) (b2:=w.heap.size+1) (x2:=.cells (msc m) 184 (0,0)) (b3:=w.heap.size+2) (x3:=.cells (ec (enZ)) 107 (0,0)) Cz0 (by simp [*]) (by simp [*]) (by simp [*]) fun w1 C1 rE rM rR=>?_
   have oE:=old rE
   have oM:=old rM
   have oR:=old rR
   refine (Y6 x _ g1 w1).mono ?_
   rintro e w3 ⟨rfl,c3⟩
   have rE3:=c3.keep rE (by simp)
   have rM3:=c3.keep rM (by simp)
   have rR3:=c3.keep rR (by simp)
   have C3:=C1.trans c3
   have o3:=ht.keep C3 (by simp)
   clear rE rM rR oE oM oR C1 c3
   have oE3:=old rE3
   have oM3:=old rM3
   have oR3:=old rR3
   go_wp2_with ((go_at_call 150;refine (JA _ _ g2 _).mono ?_;rintro e w' ⟨rfl,rfl⟩))
   refine (Qbe m _ g3 w3 o3).mono ?_
   rintro e w4 ⟨rfl,c4⟩
   have rE4:=c4.keep rE3 (by simp)
   have rM4:=c4.keep rM3 (by simp)
   have rR4:=c4.keep rR3 (by simp)
   have C4:=C3.trans c4
   have o4:=ht.old0.chg C4
   clear rE3 rM3 rR3 oE3 oM3 oR3 C3 c4 o3
   have oE4:=old rE4
   have oM4:=old rM4
   have oR4:=old rR4
   go_wp2_with (go_at_call 152;refine (asks_at _ _ g4 _).mono ?_;rintro e w' ⟨rfl,rfl⟩)
   refine bodyPost_ret (v:=.tuple #[.agg (ec enZ),.slice none 0 0,.int .i64 16]) ?_ (by rfl) ?_
   ·exact XA (by rfl) _ _ (w.heap.size+2) enZ (0,0) (by rfl) (by simp [rR4];try rfl) _ _ (by rfl) (by rfl)
   exact En3.err _ _ _ Cz0
  ·rw [show askE x c m=(YT x c m,0) from by simp [askE,ga,hb,hh]]
   clear ga hb
   obtain ⟨K,hix,hen,hd⟩:=deed_of x c m g4
   go_enter Tryz.func113,Tryz.ntmps113
   try dsimp only [List.append]
   go_wp2_with fail
   refine Xa (w:=w) (b1:=w.heap.size) (x1:=.cells (ec (x)) 107 (0,0)) (b2:=w.heap.size+1) (x2:=.cells (msc m) 184 (0,0)) (b3:=w.heap.size+2) (x3:=.cells (ec (enZ)) 107 (0,0)) Cz0 (by simp [*]) (by simp [*]) (by simp [*]) fun w1 C1 rE rM rR=>?_
   have oE:=old rE
   have oM:=old rM
   have oR:=old rR
   refine (Y6 x _ g1 w1).mono ?_
   rintro e w3 ⟨rfl,c3⟩
   have rE3:=c3.keep rE (by simp)
   have rM3:=c3.keep rM (by simp)
   have rR3:=c3.keep rR (by simp)
   have C3:=C1.trans c3
   have o3:=ht.keep C3 (by simp)
   clear rE rM rR oE oM oR C1 c3
   have oE3:=old rE3
   have oM3:=old rM3
   have oR3:=old rR3
   go_wp2_with ((go_at_call 150;refine (JA _ _ g2 _).mono ?_;rintro e w' ⟨rfl,rfl⟩))
   refine (Qbe m _ g3 w3 o3).mono ?_
   rintro e w4 ⟨rfl,c4⟩
   have rE4:=c4.keep rE3 (by simp)
   have rM4:=c4.keep rM3 (by simp)
   have rR4:=c4.keep rR3 (by simp)
   have C4:=C3.trans c4
   have o4:=ht.old0.chg C4
   clear rE3 rM3 rR3 oE3 oM3 oR3 C3 c4 o3
   have oE4:=old rE4
   have oM4:=old rM4
   have oR4:=old rR4
   go_wp2_with (go_at_call 152;refine (asks_at _ _ g4 _).mono ?_;rintro e w' ⟨rfl,rfl⟩)
   have HT:=Vh ht
   have HC4:=Vh C4
   have O4:=Vh (ht.old0.chg C4)
   clear C4 o4 ht g1 g2 g3 g4 t1 hh
   go_region_with (first
    |(go_at_call 153;refine (ddeeds_any _).mono ?_;rintro e w' ⟨rfl,c5⟩;(have rE5:=c5.keep rE4 (by simp));(have rR5:=c5.keep rR4 (by simp));(have rM5:=c5.keep rM4 (by simp));(have o5:Old _ 0:=Old.chg (b:=0) (by first |exact O4.out|(show (0:Nat)<_;exact O4.out.lt)) c5);(have z5:=c5.size))
    |(refine Calls.mono (hd _ ?_) ?_;exact o5;rintro e w' ⟨A2,n2,rfl,hs2,hA2,c2⟩;(have hA3:∀a,A2=some a→w4.heap.size≤a.block:=(fun a ha=>Nat.le_trans z5 (hA2 a ha)));(have rR2:=c2.keep rR5 (by simp));(have rE2:=c2.keep rE5 (by simp))))
   all_goals
    have C4:=HC4.out
    go_wp2_with fail
    refine bodyPost_ret (v:=.tuple #[.agg (ec (YT x c m).1),.slice A2 (YT x c m).2.length n2,.int .i64 0]) ?_ (by rfl) ?_
    ·exact XA (by rfl) _ _ (w.heap.size+2) (YT x c m).1 (0,0) (by rfl) (by simp [rR2,rE2];done) _ _ (by rfl) (by rfl)
    refine ⟨A2,n2,rfl,?_,fun a ha=>Nat.le_trans C4.size (hA3 a ha),by (repeat' (first |with_reducible exact Chg.refl _ _|with_reducible assumption|with_reducible refine Chg.drew ?_|with_reducible refine Chg.drewN ?_ _|with_reducible refine Chg.alloc ?_ _|with_reducible refine Chg.putRow ?_ _ _ _ (.inr ?_)|with_reducible refine Chg.setCell ?_ _ _ _ (.inr ?_)|with_reducible refine Chg.trans ?_ c2|with_reducible refine Chg.trans (b:=World.drew _) ?_ c2|with_reducible refine Chg.trans ?_ c5|with_reducible refine Chg.trans (b:=World.drew _) ?_ c5|(show _≤_;first |exact Nat.le_refl _|omega|(simp;done))))⟩
    exact hs2.chg (((Chg.refl [w.heap.size,w.heap.size+2] _).putRow _ _ _ (.inl (by simp))).putRow _ _ _ (.inl (by simp))) (by intro a ha;have:=hA3 a ha;have:=oR4.lt;have:=oE4.lt;simp;omega)
 ·have t1:(x.bu !=0)=true:=by simpa using hb
  rw [show askE x c m=((enZ,[]),15) from by simp [askE,ga,hb]]
  clear ga hb
  go_enter Tryz.func113,Tryz.ntmps113
  try dsimp only [List.append]
  go_wp2_with fail
  refine Xa (w:=w) (b1:=w.heap.size) (x1:=.cells (ec (x)) 107 (0,0)) (b2:=w.heap.size+1) (x2:=.cells (msc m) 184 (0,0)) (b3:=w.heap.size+2) (x3:=.cells (ec (enZ)) 107 (0,0)) Cz0 (by simp [*]) (by simp [*]) (by simp [*]) fun w1 C1 rE rM rR=>?_
  have oE:=old rE
  have oM:=old rM
  have oR:=old rR
  refine (Y6 x _ g1 w1).mono ?_
  rintro e w3 ⟨rfl,c3⟩
  have rE3:=c3.keep rE (by simp)
  have rM3:=c3.keep rM (by simp)
  have rR3:=c3.keep rR (by simp)
  have C3:=C1.trans c3
  have o3:=ht.keep C3 (by simp)
  clear rE rM rR oE oM oR C1 c3
  have oE3:=old rE3
  have oM3:=old rM3
  have oR3:=old rR3
  go_wp2_with ((go_at_call 150;refine (JA _ _ g2 _).mono ?_;rintro e w' ⟨rfl,rfl⟩))
  refine (Qbe m _ g3 w3 o3).mono ?_
  rintro e w4 ⟨rfl,c4⟩
  have rE4:=c4.keep rE3 (by simp)
  have rM4:=c4.keep rM3 (by simp)
  have rR4:=c4.keep rR3 (by simp)
  have C4:=C3.trans c4
  have o4:=ht.old0.chg C4
  clear rE3 rM3 rR3 oE3 oM3 oR3 C3 c4 o3
  have oE4:=old rE4
  have oM4:=old rM4
  have oR4:=old rR4
  go_wp2_with (go_at_call 152;refine (asks_at _ _ g4 _).mono ?_;rintro e w' ⟨rfl,rfl⟩)
  refine bodyPost_ret (v:=.tuple #[.agg (ec enZ),.slice none 0 0,.int .i64 15]) ?_ (by rfl) ?_
  ·exact XA (by rfl) _ _ (w.heap.size+2) enZ (0,0) (by rfl) (by simp [rR4];try rfl) _ _ (by rfl) (by rfl)
  exact En3.err _ _ _ Cz0
end
section
attribute [local go_sem ↓] Qv QF Qx QP Zi QG Qs Zg Q7 ZP Zu Qk Qh heap_alloc Ql heap_setCell Qc Xq Xp Xy Xx
attribute [local go_sem] Qb Qa Qe Qi Qd Qg Qf Qt Zk Zf ZM QB Qw QN QL QM Q6 ZN QJ QA Qr QD QX QI Qq QC Qp Qj Qo Qn Qm Zv lit8 QH ZO Zx Zy
attribute [local simp] Qb Qa Qe Qi Qd Qg Qf Qt Qr Qj Qo Qn Qm QH
theorem Qfz (x:En) (c:Int) (m:Ms) (w:World):Calls Tryz.prog 160 #[.agg (ec x),.int .i64 c,.agg (msc m)] w fun e w'=>e=.returned (.agg (ec (QW x c m)))∧Chg [] w w':=by
 cases hk:m.ke
 ·rw [show QW x c m=((Za (Ze x m) c).setWa ((Za (Ze x m) c).wa&&& ~~~(bitM c))) from by simp [QW,hk]]
  go_enter Tryz.func160,Tryz.ntmps160
  try dsimp only [List.append]
  go_wp2_with fail
  refine Xa (w:=w) (b1:=w.heap.size) (x1:=.cells (ec (x)) 107 (0,0)) (b2:=w.heap.size+1) (x2:=.cells (msc m) 184 (0,0)) (b3:=w.heap.size+2) (x3:=.cells (ec (enZ)) 107 (0,0)) Cz0 (by simp [*]) (by simp [*]) (by simp [*]) fun w1 C1 rE rM rR=>?_
  have oE:=old rE
  have oM:=old rM
  have oR:=old rR
  refine (Qd0 x m w1).mono ?_
  rintro e w3 ⟨rfl,c3⟩
  have rE3:=c3.keep rE (by simp)
  have rM3:=c3.keep rM (by simp)
  have rR3:=c3.keep rR (by simp)
  have C3:=C1.trans c3
  clear rE rM rR oE oM oR C1 c3
  go_wp2_with fail
  refine (Qcd _ c w3).mono ?_
  rintro e w4 ⟨rfl,c4⟩
  have rE4:=c4.keep rE3 (by simp)
  have rM4:=c4.keep rM3 (by simp)
  have rR4:=c4.keep rR3 (by simp)
  have C4:=C3.trans c4
  clear rE3 rM3 rR3 C3 c4
  have oE4:=old rE4
  have oM4:=old rM4
  have oR4:=old rR4
  go_wp2_with fail
  go_region_with ((go_at_call 171;refine (YR _ _).mono ?_;rintro e w' ⟨rfl,rfl⟩))
  all_goals
   go_wp2_with fail
   refine bodyPost_ret (v:=.agg (ec ((Za (Ze x m) c).setWa ((Za (Ze x m) c).wa&&& ~~~(bitM c))))) ?_ (by rfl) ?_
   ·exact YD (by rfl) _ _ (w.heap.size+2) _ (0,0) (by rfl) Cz9
   exact Tz2
 ·rw [show QW x c m=((Za (Ze x m) c).setWa ((Za (Ze x m) c).wa&&& ~~~(bitM c))).setSh ((Za (Ze x m) c).sh|||bitM c) from by simp [QW,hk];rfl]
  go_enter Tryz.func160,Tryz.ntmps160
  try dsimp only [List.append]
  go_wp2_with fail
  refine Xa (w:=w) (b1:=w.heap.size) (x1:=.cells (ec (x)) 107 (0,0)) (b2:=w.heap.size+1) (x2:=.cells (msc m) 184 (0,0)) (b3:=w.heap.size+2) (x3:=.cells (ec (enZ)) 107 (0,0)) Cz0 (by simp [*]) (by simp [*]) (by simp [*]) fun w1 C1 rE rM rR=>?_
  have oE:=old rE
  have oM:=old rM
  have oR:=old rR
  refine (Qd0 x m w1).mono ?_
  rintro e w3 ⟨rfl,c3⟩
  have rE3:=c3.keep rE (by simp)
  have rM3:=c3.keep rM (by simp)
  have rR3:=c3.keep rR (by simp)
  have C3:=C1.trans c3
  clear rE rM rR oE oM oR C1 c3
  go_wp2_with fail
  refine (Qcd _ c w3).mono ?_
  rintro e w4 ⟨rfl,c4⟩
  have rE4:=c4.keep rE3 (by simp)
  have rM4:=c4.keep rM3 (by simp)
  have rR4:=c4.keep rR3 (by simp)
  have C4:=C3.trans c4
  clear rE3 rM3 rR3 C3 c4
  have oE4:=old rE4
  have oM4:=old rM4
  have oR4:=old rR4
  go_wp2_with fail
  go_region_with ((go_at_call 171;refine (YR _ _).mono ?_;rintro e w' ⟨rfl,rfl⟩))
  all_goals
   go_wp2_with fail
   refine Qay (w:=w) (b1:=w.heap.size) (x1:=.cells (ec (((Za (Ze x m) c).setWa ((Za (Ze x m) c).wa&&& ~~~(bitM c))))) 107 (0,0)) (b2:=w.heap.size+1) (x2:=.cells (msc m) 184 (0,0)) (b3:=w.heap.size+2) (x3:=.cells (ec (enZ)) 107 (0,0)) Cz0 Cz9 Cz9 Cz9 fun w5 C5 rE5 rM5 rR5=>?_
   have oE5:=old rE5
   have oM5:=old rM5
   have oR5:=old rR5
   go_region_with ((go_at_call 171;refine (YR _ _).mono ?_;rintro e w' ⟨rfl,rfl⟩))
   all_goals
    go_wp2_with fail
    refine bodyPost_ret (v:=.agg (ec (((Za (Ze x m) c).setWa ((Za (Ze x m) c).wa&&& ~~~(bitM c))).setSh ((Za (Ze x m) c).sh|||bitM c)))) ?_ (by rfl) ?_
    ·exact YD (by rfl) _ _ (w.heap.size+2) _ (0,0) (by rfl) Cz9
    exact Tz2
theorem dsettled_any (x:En) (li:Int) (w:World) (h0:Old w 0):Calls Tryz.prog 161 #[.agg (ec x),.int .i64 li] w (EnSds w (YP x li)):=by
 by_cases h1:x.bu=1
 ·have t1:(x.bu==1)=true:=by simpa using h1
  rw [show YP x li=Jq (Js x) x.by_ li by simp [YP,h1]]
  clear h1
  go_enter Tryz.func161,Tryz.ntmps161
  try dsimp only [List.append]
  go_wp2_with fail
  refine J9 (w:=w) (b1:=w.heap.size) (x1:=.cells (ec (x)) 107 (0,0)) (b2:=w.heap.size+1) (x2:=.cells (ec (enZ)) 107 (0,0)) Cz0 (by simp [*]) (by simp [*]) fun w1 C1 rE rR=>?_
  have oE:=old rE
  have oR:=old rR
  have o0:=h0.chg C1
  go_region_held3 (fun w'=>w'.heap[w.heap.size]? =some (.cells (ec (x)) 107 (0,0))) (first |exact rE|exact c2.keep rE (by simp)|exact c3.keep rE (by simp)|exact c2.keep (by simp [*]) (by simp)|exact c3.keep (by simp [*]) (by simp)|simp [*])
   (first
    |(go_at_call 169;refine (Qiu _ _).mono ?_;rintro e w' ⟨rfl,c3⟩;(have rR3:=c3.keep rR (by simp));(have o3:=Old.chg (b:=0) Cz7 c3);(have z3:=c3.size))
    |(go_at_call 211;refine (Qis _ _ _ _ ?_).mono ?_;exact o3;rintro e w' ⟨A2,n2,rfl,hs2,hA2,c2⟩;(have hA3:∀a,A2=some a→w1.heap.size≤a.block:=(fun a ha=>Nat.le_trans z3 (hA2 a ha)));(have rR2:=c2.keep rR3 (by simp))))
  all_goals
   go_wp2_with fail
   refine bodyPost_ret (v:=.tuple #[.agg (ec ((Jq (Js x) x.by_ li).1)),.slice A2 (Jq (Js x) x.by_ li).2.length n2]) ?_ (by rfl) ?_
   ·exact XE (by rfl) _ _ (w.heap.size+1) _ (0,0) (by rfl) Cz8 _ (by rfl)
   exact Tz24
 have t1:(x.bu==1)=false:=by simpa using h1
 by_cases h2:x.bu=2
 ·have t2:(x.bu==2)=true:=by simpa using h2
  rw [show YP x li=JI (Js x) x.by_ 10 li by simp [YP,h2]]
  clear h1 h2
  go_enter Tryz.func161,Tryz.ntmps161
  try dsimp only [List.append]
  go_wp2_with fail
  refine J9 (w:=w) (b1:=w.heap.size) (x1:=.cells (ec (x)) 107 (0,0)) (b2:=w.heap.size+1) (x2:=.cells (ec (enZ)) 107 (0,0)) Cz0 (by simp [*]) (by simp [*]) fun w1 C1 rE rR=>?_
  have oE:=old rE
  have oR:=old rR
  have o0:=h0.chg C1
  go_region_held3 (fun w'=>w'.heap[w.heap.size]? =some (.cells (ec (x)) 107 (0,0))) (first |exact rE|exact c2.keep rE (by simp)|exact c3.keep rE (by simp)|exact c2.keep (by simp [*]) (by simp)|exact c3.keep (by simp [*]) (by simp)|simp [*])
   (first
    |(go_at_call 169;refine (Qiu _ _).mono ?_;rintro e w' ⟨rfl,c3⟩;(have rR3:=c3.keep rR (by simp));(have o3:=Old.chg (b:=0) Cz7 c3);(have z3:=c3.size))
    |(go_at_call 212;refine (Qgr _ _ _ _ _ ?_).mono ?_;exact o3;rintro e w' ⟨A2,n2,rfl,hs2,hA2,c2⟩;(have hA3:∀a,A2=some a→w1.heap.size≤a.block:=(fun a ha=>Nat.le_trans z3 (hA2 a ha)));(have rR2:=c2.keep rR3 (by simp))))
  all_goals
   go_wp2_with fail
   refine bodyPost_ret (v:=.tuple #[.agg (ec ((JI (Js x) x.by_ 10 li).1)),.slice A2 (JI (Js x) x.by_ 10 li).2.length n2]) ?_ (by rfl) ?_
   ·exact XE (by rfl) _ _ (w.heap.size+1) _ (0,0) (by rfl) Cz8 _ (by rfl)
   exact Tz24
 ·have t2:(x.bu==2)=false:=by simpa using h2
  rw [show YP x li=(x,[]) by simp [YP,h1,h2]]
  clear h1 h2
  go_enter Tryz.func161,Tryz.ntmps161
  try dsimp only [List.append]
  go_wp2_with fail
  refine bodyPost_ret (v:=.tuple #[.agg (ec x),.slice none 0 0]) ?_ (by rfl) ?_
  ·exact XE (by rfl) _ _ (w.heap.size+1) x (0,0) (by rfl) (by simp) _ (by rfl)
  exact ⟨none,0,rfl,⟨rfl,.inl rfl⟩,by simp,by (repeat' (first |with_reducible exact Chg.refl _ _|with_reducible assumption|with_reducible refine Chg.drew ?_|with_reducible refine Chg.drewN ?_ _|with_reducible refine Chg.alloc ?_ _|with_reducible refine Chg.putRow ?_ _ _ _ (.inr ?_)|with_reducible refine Chg.setCell ?_ _ _ _ (.inr ?_)|(show _≤_;first |exact Nat.le_refl _|omega|(simp;done))))⟩
theorem danswer_any (x:En) (c:Int) (m:Ms) (w:World) (ht:Tab w):Calls Tryz.prog 118 #[.agg (ec x),.int .i64 c,.agg (msc m)] w (En3 w (ansE x c m)):=by
 cases g1:JN x
 ·skip
  rw [show ansE x c m=((enZ,[]),1) from by simp [ansE,Qf7,g1]]
  go_enter Tryz.func118,Tryz.ntmps118
  exact Tz23
 cases g2:isC c
 ·skip
  rw [show ansE x c m=((enZ,[]),1) from by simp [ansE,Qf7,g2]]
  go_enter Tryz.func118,Tryz.ntmps118
  exact Tz19
 cases g3:mg m
 ·skip
  rw [show ansE x c m=((enZ,[]),1) from by simp [ansE,Qf7,g3]]
  go_enter Tryz.func118,Tryz.ntmps118
  exact Tz14
 cases g4:Qbt m.kd
 ·skip
  rw [show ansE x c m=((enZ,[]),1) from by simp [ansE,Qf7,g4]]
  go_enter Tryz.func118,Tryz.ntmps118
  try dsimp only [List.append]
  go_wp2_with fail
  refine Xa (w:=w) (b1:=w.heap.size) (x1:=.cells (ec (x)) 107 (0,0)) (b2:=w.heap.size+1) (x2:=.cells (msc m) 184 (0,0)) (b3:=w.heap.size+2) (x3:=.cells (ec (enZ)) 107 (0,0)) Cz0 (by simp [*]) (by simp [*]) (by simp [*]) fun w1 C1 rE rM rR=>?_
  have oE:=old rE
  have oM:=old rM
  have oR:=old rR
  refine (Y6 x _ g1 w1).mono ?_
  rintro e w3 ⟨rfl,c3⟩
  have rE3:=c3.keep rE (by simp)
  have rM3:=c3.keep rM (by simp)
  have rR3:=c3.keep rR (by simp)
  have C3:=C1.trans c3
  have o3:=ht.keep C3 (by simp)
  clear rE rM rR oE oM oR C1 c3
  have oE3:=old rE3
  have oM3:=old rM3
  have oR3:=old rR3
  go_wp2_with ((go_at_call 150;refine (JA _ _ g2 _).mono ?_;rintro e w' ⟨rfl,rfl⟩))
  refine (Qbe m _ g3 w3 o3).mono ?_
  rintro e w4 ⟨rfl,c4⟩
  have rE4:=c4.keep rE3 (by simp)
  have rM4:=c4.keep rM3 (by simp)
  have rR4:=c4.keep rR3 (by simp)
  have C4:=C3.trans c4
  have o4:=ht.old0.chg C4
  clear rE3 rM3 rR3 oE3 oM3 oR3 C3 c4 o3
  have oE4:=old rE4
  have oM4:=old rM4
  have oR4:=old rR4
  go_wp2_with (go_at_call 158;refine (Qen _ _ g4 _).mono ?_;rintro e w' ⟨rfl,rfl⟩)
  refine bodyPost_ret (v:=.tuple #[.agg (ec enZ),.slice none 0 0,.int .i64 1]) ?_ (by rfl) ?_
  ·exact XA (by rfl) _ _ (w.heap.size+2) enZ (0,0) (by rfl) (by simp [rR4];try rfl) _ _ (by rfl) (by rfl)
  exact En3.err _ _ _ Cz0
 have ga:Qf7 x c m=true:=by simp [Qf7,g1,g2,g3,g4]
 cases hb:hasM x.wa c
 ·rw [show ansE x c m=((enZ,[]),16) from by simp [ansE,ga,hb]]
  clear ga
  go_enter Tryz.func118,Tryz.ntmps118
  try dsimp only [List.append]
  go_wp2_with fail
  refine Xa (w:=w) (b1:=w.heap.size) (x1:=.cells (ec (x)) 107 (0,0)) (b2:=w.heap.size+1) (x2:=.cells (msc m) 184 (0,0)) (b3:=w.heap.size+2) (x3:=.cells (ec (enZ)) 107 (0,0)) Cz0 (by simp [*]) (by simp [*]) (by simp [*]) fun w1 C1 rE rM rR=>?_
  have oE:=old rE
  have oM:=old rM
  have oR:=old rR
  refine (Y6 x _ g1 w1).mono ?_
  rintro e w3 ⟨rfl,c3⟩
  have rE3:=c3.keep rE (by simp)
  have rM3:=c3.keep rM (by simp)
  have rR3:=c3.keep rR (by simp)
  have C3:=C1.trans c3
  have o3:=ht.keep C3 (by simp)
  clear rE rM rR oE oM oR C1 c3
  have oE3:=old rE3
  have oM3:=old rM3
  have oR3:=old rR3
  go_wp2_with ((go_at_call 150;refine (JA _ _ g2 _).mono ?_;rintro e w' ⟨rfl,rfl⟩))
  refine (Qbe m _ g3 w3 o3).mono ?_
  rintro e w4 ⟨rfl,c4⟩
  have rE4:=c4.keep rE3 (by simp)
  have rM4:=c4.keep rM3 (by simp)
  have rR4:=c4.keep rR3 (by simp)
  have C4:=C3.trans c4
  have o4:=ht.old0.chg C4
  clear rE3 rM3 rR3 oE3 oM3 oR3 C3 c4 o3
  have oE4:=old rE4
  have oM4:=old rM4
  have oR4:=old rR4
  go_wp2_with (first |(go_at_call 158;refine (Qen _ _ g4 _).mono ?_;rintro e w' ⟨rfl,rfl⟩)|(go_at_call 159;refine (Qfs _ _ _).mono ?_;rintro e w' ⟨rfl,rfl⟩;rw [hb]))
  refine bodyPost_ret (v:=.tuple #[.agg (ec enZ),.slice none 0 0,.int .i64 16]) ?_ (by rfl) ?_
  ·exact XA (by rfl) _ _ (w.heap.size+2) enZ (0,0) (by rfl) (by simp [rR4];try rfl) _ _ (by rfl) (by rfl)
  exact En3.err _ _ _ Cz0
 ·cases hw:((QW x c m).wa !=0#8)
  ·rw [show ansE x c m=(YP (QW x c m) m.li,0) from by simp [ansE,ga,hb];intro h;simp [h] at hw]
   clear ga
   go_enter Tryz.func118,Tryz.ntmps118
   try dsimp only [List.append]
   go_wp2_with fail
   refine Xa (w:=w) (b1:=w.heap.size) (x1:=.cells (ec (x)) 107 (0,0)) (b2:=w.heap.size+1) (x2:=.cells (msc m) 184 (0,0)) (b3:=w.heap.size+2) (x3:=.cells (ec (enZ)) 107 (0,0)) Cz0 (by simp [*]) (by simp [*]) (by simp [*]) fun w1 C1 rE rM rR=>?_
   have oE:=old rE
   have oM:=old rM
   have oR:=old rR
   refine (Y6 x _ g1 w1).mono ?_
   rintro e w3 ⟨rfl,c3⟩
   have rE3:=c3.keep rE (by simp)
   have rM3:=c3.keep rM (by simp)
   have rR3:=c3.keep rR (by simp)
   have C3:=C1.trans c3
   have o3:=ht.keep C3 (by simp)
   clear rE rM rR oE oM oR C1 c3
   have oE3:=old rE3
   have oM3:=old rM3
   have oR3:=old rR3
   go_wp2_with ((go_at_call 150;refine (JA _ _ g2 _).mono ?_;rintro e w' ⟨rfl,rfl⟩))
   refine (Qbe m _ g3 w3 o3).mono ?_
   rintro e w4 ⟨rfl,c4⟩
   have rE4:=c4.keep rE3 (by simp)
   have rM4:=c4.keep rM3 (by simp)
   have rR4:=c4.keep rR3 (by simp)
   have C4:=C3.trans c4
   have o4:=ht.old0.chg C4
   clear rE3 rM3 rR3 oE3 oM3 oR3 C3 c4 o3
   have oE4:=old rE4
   have oM4:=old rM4
   have oR4:=old rR4
   go_wp2_with (first |(go_at_call 158;refine (Qen _ _ g4 _).mono ?_;rintro e w' ⟨rfl,rfl⟩)|(go_at_call 159;refine (Qfs _ _ _).mono ?_;rintro e w' ⟨rfl,rfl⟩;rw [hb]))
   refine (Qfz x c m w4).mono ?_
   rintro e w5 ⟨rfl,c5⟩
   have rE5:=c5.keep rE4 (by simp)
   have rM5:=c5.keep rM4 (by simp)
   have rR5:=c5.keep rR4 (by simp)
   have C5:=C4.trans c5
   clear rE4 rM4 rR4 oE4 oM4 oR4 C4 c5 o4
   have oE5:=old rE5
   have oM5:=old rM5
   have oR5:=old rR5
   go_wp2_with fail
   refine Xa (w:=w) (b1:=w.heap.size) (x1:=.cells (ec (QW x c m)) 107 (0,0)) (b2:=w.heap.size+1) (x2:=.cells (msc m) 184 (0,0)) (b3:=w.heap.size+2) (x3:=.cells (ec (enZ)) 107 (0,0)) Cz0 (by simp [*]) (by simp [*]) (by simp [*]) fun w6 C6 rE6 rM6 rR6=>?_
   have oE6:=old rE6
   have oM6:=old rM6
   have oR6:=old rR6
   refine (dsettled_any (QW x c m) m.li w6 (ht.old0.chg C6)).mono ?_
   rintro e w2 ⟨A2,n2,rfl,hs2,hA3,c2⟩
   have rE2:=c2.keep rE6 (by simp)
   have rR2:=c2.keep rR6 (by simp)
   have oE2:=old rE2
   have oR2:=old rR2
   go_wp2_with fail
   refine bodyPost_ret (v:=.tuple #[.agg (ec (YP (QW x c m) m.li).1),.slice A2 (YP (QW x c m) m.li).2.length n2,.int .i64 0]) ?_ (by rfl) ?_
   ·exact XA (by rfl) _ _ (w.heap.size+2) (YP (QW x c m) m.li).1 (0,0) (by rfl) (by simp [rR2,rE2];done) _ _ (by rfl) (by rfl)
   refine ⟨A2,n2,rfl,?_,fun a ha=>Nat.le_trans C6.size (hA3 a ha),by (repeat' (first |with_reducible exact Chg.refl _ _|with_reducible assumption|with_reducible refine Chg.drew ?_|with_reducible refine Chg.drewN ?_ _|with_reducible refine Chg.alloc ?_ _|with_reducible refine Chg.putRow ?_ _ _ _ (.inr ?_)|with_reducible refine Chg.setCell ?_ _ _ _ (.inr ?_)|with_reducible refine Chg.trans ?_ c2|with_reducible refine Chg.trans (b:=World.drew _) ?_ c2|(show _≤_;first |exact Nat.le_refl _|omega|(simp;done))))⟩
   exact hs2.chg (((Chg.refl [w.heap.size,w.heap.size+2] _).putRow _ _ _ (.inl (by simp))).putRow _ _ _ (.inl (by simp))) (by intro a ha;have:=hA3 a ha;have:=oR6.lt;have:=oE6.lt;simp;omega)
  ·rw [show ansE x c m=((QW x c m,[]),0) from by simp [ansE,ga,hb];intro h;simp [h] at hw]
   clear ga
   go_enter Tryz.func118,Tryz.ntmps118
   try dsimp only [List.append]
   go_wp2_with fail
   refine Xa (w:=w) (b1:=w.heap.size) (x1:=.cells (ec (x)) 107 (0,0)) (b2:=w.heap.size+1) (x2:=.cells (msc m) 184 (0,0)) (b3:=w.heap.size+2) (x3:=.cells (ec (enZ)) 107 (0,0)) Cz0 (by simp [*]) (by simp [*]) (by simp [*]) fun w1 C1 rE rM rR=>?_
   have oE:=old rE
   have oM:=old rM
   have oR:=old rR
   refine (Y6 x _ g1 w1).mono ?_
   rintro e w3 ⟨rfl,c3⟩
   have rE3:=c3.keep rE (by simp)
   have rM3:=c3.keep rM (by simp)
   have rR3:=c3.keep rR (by simp)
   have C3:=C1.trans c3
   have o3:=ht.keep C3 (by simp)
   clear rE rM rR oE oM oR C1 c3
   have oE3:=old rE3
   have oM3:=old rM3
   have oR3:=old rR3
   go_wp2_with ((go_at_call 150;refine (JA _ _ g2 _).mono ?_;rintro e w' ⟨rfl,rfl⟩))
   refine (Qbe m _ g3 w3 o3).mono ?_
   rintro e w4 ⟨rfl,c4⟩
   have rE4:=c4.keep rE3 (by simp)
   have rM4:=c4.keep rM3 (by simp)
   have rR4:=c4.keep rR3 (by simp)
   have C4:=C3.trans c4
   have o4:=ht.old0.chg C4
   clear rE3 rM3 rR3 oE3 oM3 oR3 C3 c4 o3
   have oE4:=old rE4
   have oM4:=old rM4
   have oR4:=old rR4
   go_wp2_with (first |(go_at_call 158;refine (Qen _ _ g4 _).mono ?_;rintro e w' ⟨rfl,rfl⟩)|(go_at_call 159;refine (Qfs _ _ _).mono ?_;rintro e w' ⟨rfl,rfl⟩;rw [hb]))
   refine (Qfz x c m w4).mono ?_
   rintro e w5 ⟨rfl,c5⟩
   have rE5:=c5.keep rE4 (by simp)
   have rM5:=c5.keep rM4 (by simp)
   have rR5:=c5.keep rR4 (by simp)
   have C5:=C4.trans c5
   clear rE4 rM4 rR4 oE4 oM4 oR4 C4 c5 o4
   have oE5:=old rE5
   have oM5:=old rM5
   have oR5:=old rR5
   go_wp2_with fail
   refine bodyPost_ret (v:=.tuple #[.agg (ec (QW x c m)),.slice none 0 0,.int .i64 0]) ?_ (by rfl) ?_
   ·exact XA (by rfl) _ _ (w.heap.size+2) (QW x c m) (0,0) (by rfl) Cz9 _ _ (by rfl) (by rfl)
   exact ⟨none,0,rfl,⟨rfl,.inl rfl⟩,by simp,by (repeat' (first |with_reducible exact Chg.refl _ _|with_reducible assumption|with_reducible refine Chg.drew ?_|with_reducible refine Chg.drewN ?_ _|with_reducible refine Chg.alloc ?_ _|with_reducible refine Chg.putRow ?_ _ _ _ (.inr ?_)|with_reducible refine Chg.setCell ?_ _ _ _ (.inr ?_)|(show _≤_;first |exact Nat.le_refl _|omega|(simp;done))))⟩
theorem dready_at (x:En) (b:Bool) (h:Jy x=b) (w:World):Calls Tryz.prog 168 #[.agg (ec x)] w fun e w'=>e=.returned (.bool b)∧Chg [] w w':=h▸dready_any x w
end
section
attribute [local go_sem ↓] Qv QF Qx QP QG Qs Zg Q7 ZH Zt Qk Qh heap_alloc Ql heap_setCell Qc XG XP XO Zi ZP Zu Xk ZQ Xq Xp Xy Xx
attribute [local go_sem] Qb Qa Qe Qi Qd Qg Qf Qt Zk Zf ZE QB Qw QN QL QM Q6 QJ QA Qr QD QX QI Qq QC Qp Qj Qo Qn Qm Zj Zv lit8 QV Xc ZG ZL ZV Zn ZM Xj ZN QH ZO Zx Zy QZ QY Zb XB
attribute [local simp] Qb Qa Qe Qi Qd Qg Qf Qt Qr Qj Qo Qn Qm QV QH QZ QY Zb QD
attribute [local go_sem ↓] YL Y0 Y1 J5
attribute [local simp] YL
theorem cat_row {α:Type} {k:Nat} {enc:α→List Value} (hk:∀a,(enc a).length=k):∀(xs:List α) (i:Nat) (a b:α),xs[i]? =some a→Zz (cat enc xs) (i*k) (enc b)=cat enc (xs.set i b)
 |[],i,a,b,h=>by simp at h
 |x::xs,0,a,b,h=>by
  simp only [List.set_cons_zero,cat_cons,Nat.zero_mul]
  unfold Zz
  rw [List.take_zero,List.nil_append,Nat.zero_add,hk b,←hk x,List.drop_left]
 |x::xs,i+1,a,b,h=>by
  simp only [List.getElem?_cons_succ] at h
  have ih:=cat_row hk xs i a b h
  simp only [List.set_cons_succ,cat_cons]
  rw [←ih]
  unfold Zz
  have e:(i+1)*k=(enc x).length+i*k:=by rw [hk,Nat.add_mul];omega
  rw [e,List.take_append,List.take_of_length_le (by omega),show (enc x).length+i*k-(enc x).length=i*k by omega,Nat.add_assoc,List.drop_append,List.drop_eq_nil_of_le (by omega),show (enc x).length+(i*k+(enc b).length)-(enc x).length=i*k+(enc b).length by omega]
  simp
theorem sq_putRow {α:Type} {k:Nat} {enc:α→List Value} (hk:∀a,(enc a).length=k) {xs:List α} {i:Nat} {a:α} (b:α) (h:xs[i]? =some a) (t:TypeId) (f:Nat×Nat):J6 (some (.cells (sq enc xs []) t f)) (i*k) (enc b).toArray=some (.cells (sq enc (xs.set i b) []) t f):=by
 rw [XD,YF,List.append_nil,List.toList_toArray,cat_row hk xs i a b h]
 unfold sq
 rw [List.append_nil]
theorem erow {en:List En} {i:Nat} {e:En} (h:en[i]? =some e) (t:TypeId) (f:Nat×Nat):XF (some (.cells (sq En.enc en []) t f)) (i*15) 15=ec e:=by
 have:=Qcm En.len h [] t f 0 15 (by omega)
 rw [Nat.add_zero] at this
 rw [this,List.drop_zero,List.take_of_length_le (by rw [En.len];exact Nat.le_refl _)]
 rfl
theorem Qev {en:List En} {i:Nat} {e:En} (h:en[i]? =some e) (t:TypeId) (f:Nat×Nat):Qbo (some (.cells (sq En.enc en []) t f)) (i*15) 15=true:=Qff En.len (Vg h).1 [] t f 0 15 (by omega)
theorem erowHas {en:List En} {i:Nat} {e:En} (h:en[i]? =some e) (t:TypeId):ZX (some (.cells (sq En.enc en []) t (0,0))) (i*15) 15=true:=by
 have:=Qev h t (0,0)
 rw [Qi] at this
 rw [Qe];exact this
theorem ec_setHe' (e:En) (b:Bool):(ec e).setIfInBounds 0 (.bool b)=ec (e.setHe b):=by simp [ec,En.enc,En.tail,En.setHe]
attribute [local go_sem] ec_setHe'
attribute [local simp] ec_setHe'
theorem MTo.loc {W w w1 w2:World} {c:Cg} {z z':Lay} {L L':List (Po×Pt)} {en:List En} {es:List Ent} {xs:List Int} (h:MTo W w c z L z' L' en es xs w1) {l:List Nat} (hc:Chg l w1 w2) (hl:∀k∈l,W.heap.size≤k∧w.heap.size≤k∧k∉z'.all L'):MTo W w c z L z' L' en es xs w2:=
 ⟨h.1.keepL hc (fun k hk=>(hl k hk).2.2) (fun k hk=>(hl k hk).1),h.2.1.trans' hc (fun k hk=>.inr (hl k hk).2.1),h.2.2⟩
section
variable {W:World} {c:Cg} {z:Lay} {L:List (Po×Pt)} {en:List En} {es:List Ent} {xs:List Int}
theorem zentry_ok (i:Nat) (e:En) (w:World) (h:Msd W w c z L en es xs) (he:en[i]? =some e):Calls Tryz.prog 38 #[.pointer (some ⟨z.sy,0,none⟩),.int .i64 i] w fun r w'=>r=.returned (.agg (ec e))∧Chg [] w w':=by
 have hi:i<c.li:=by rw [←h.lines];exact (Vg he).1
 have rS:=h.sys
 have rE:=h.ents
 have oS:=old rS
 have oE:=old rE
 have p0:=fun t f=>erow he t f
 have p1:=fun t f=>Qev he t f
 have g0:(0:Int)≤(i:Int):=by omega
 have g1:(i:Int)<(c.li:Int):=by omega
 have HH:=Vh h
 have HI:=Vh hi
 clear h he hi
 go_enter Tryz.func38,Tryz.ntmps38
 try dsimp only [List.append]
 go_wp2_with (first |(go_at_call 69;refine (Z8 i true (by unfold inB;have:=HI.out;simp;omega) _ (HH.out.keep ((Chg.refl [] w).alloc _))).mono ?_;rintro e w' ⟨rfl,rfl⟩))
 refine bodyPost_ret (v:=.agg (ec e)) ?_ (by rfl) ?_
 ·exact YD (by rfl) _ _ (w.heap.size) e (0,0) (by rfl) (by simp [*])
 exact Tz2
theorem zentry_off (k:Int) (w:World) (h:Msd W w c z L en es xs) (hk:inB k c.li=false):Calls Tryz.prog 38 #[.pointer (some ⟨z.sy,0,none⟩),.int .i64 k] w fun r w'=>r=.returned (.agg (ec enE))∧Chg [] w w':=by
 have HH:=Vh h
 have HK:=Vh hk
 clear h hk
 go_enter Tryz.func38,Tryz.ntmps38
 try dsimp only [List.append]
 go_wp2_with (first |(go_at_call 69;refine (Z8 k false HK.out _ (HH.out.keep ((Chg.refl [] w).alloc _))).mono ?_;rintro e w' ⟨rfl,rfl⟩))
 refine (Qek _).mono ?_
 rintro e w2 ⟨rfl,c2⟩
 have C2:=((Chg.refl [] w).alloc _).trans c2
 have r2:w2.heap[w.heap.size]? =some (.cells (ec enZ) 107 (0,0)):=c2.keep (by simp) Vn
 have o2:=old r2
 go_wp2_with fail
 refine bodyPost_ret (v:=.agg (ec enE)) ?_ (by rfl) ?_
 ·exact YD (by rfl) _ _ (w.heap.size) enE (0,0) (by rfl) (by simp [*])
 exact Tz2
def hereE (e:En) (l:List Int) (h:l.length=8):En:=if e.he=true then e else (e.setHe true).setL l h
theorem zhere_ok (i:Nat) (e:En) (w:World) (h:Msd W w c z L en es xs) (he:en[i]? =some e) (l:List Int) (hl:l.length=8) (hX:ln (over xs es) i=l):
 Calls Tryz.prog 114 #[.pointer (some ⟨z.sy,0,none⟩),.int .i64 i] w fun r w'=>r=.returned (.agg (ec (hereE e l hl)))∧∃be',MTo W w c z L {z with be:=be'} L en es xs w':=by
 have hi:i<c.li:=by rw [←h.lines];exact (Vg he).1
 have rS:=h.sys
 have rE:=h.ents
 have oS:=old rS
 have oE:=old rE
 have p0:=fun t f=>erow he t f
 have p1:=fun t f=>Qev he t f
 have g0:(0:Int)≤(i:Int):=by omega
 have g1:(i:Int)<(c.li:Int):=by omega
 have HH:=Vh h
 have HI:=Vh hi
 have HX:=Vh hX
 cases hh:e.he
 ·have HE:=Vh (show hereE e l hl=(e.setHe true).setL l hl by unfold hereE;rw [if_neg (by simp [hh])])
  clear h he hi hX
  go_enter Tryz.func114,Tryz.ntmps114
  try dsimp only [List.append]
  have r1:((w.alloc (.cells (ec enZ) 107)).alloc (.cells (ec e) 107)).heap[w.heap.size]? =some (.cells (ec enZ) 107 (0,0)):=by simp
  have r2:((w.alloc (.cells (ec enZ) 107)).alloc (.cells (ec e) 107)).heap[w.heap.size+1]? =some (.cells (ec e) 107 (0,0)):=by simp
  have C2:=Vh (((Chg.refl [] w).alloc (.cells (ec enZ) 107)).alloc (.cells (ec e) 107))
  go_upto_region 2 with fail
  clear p0 p1 rE oE
  generalize hb1:w.heap.size=b1 at r1 r2 ⊢
  generalize (w.alloc (.cells (ec enZ) 107)).alloc (.cells (ec e) 107)=w2 at r1 r2 C2 ⊢
  have o1:=old r1
  have o2:=old r2
  replace rS:=C2.out.keep rS (by simp)
  replace oS:=old rS
  have HB1:=Vh hb1
  have NS:=Z6 HH.out.sys
  have ns1:z.sy≠b1:=by rw [←hb1];omega
  have ns2:z.sy≠b1+1:=by rw [←hb1];omega
  have ns3:b1≠z.sy:=Ne.symm ns1
  have ns4:b1+1≠z.sy:=Ne.symm ns2
  clear hb1 NS
  have r3:(w2.setCell ⟨b1+1,0,none⟩ (.bool true)).heap[b1+1]? =some (.cells (ec (e.setHe true)) 107 (0,0)):=by simp [r2]
  have r4:(w2.setCell ⟨b1+1,0,none⟩ (.bool true)).heap[b1]? =some (.cells (ec enZ) 107 (0,0)):=by simp [r1]
  have C3:=Vh (C2.out.setCell (b1+1) 0 (.bool true) (.inr (by rw [HB1.out];omega)))
  go_wp2_with fail
  generalize w2.setCell ⟨b1+1,0,none⟩ (.bool true)=w3 at r3 r4 C3 ⊢
  clear r1 r2 o1 o2 C2
  refine (sys_read (HH.out.keep C3.out).mem i HI.out).mono ?_
  rintro r w4 ⟨rfl,be',hs4,hc4,hb4⟩
  rw [HX.out]
  have NB:∀k,w.heap.size≤k→k∉[z.q,z.be,z.g,z.b]:=fun k hk=>HH.out.mem.new4 hk
  have r5:=hc4.keep r3 (NB _ (by rw [HB1.out];omega))
  have r6:=hc4.keep r4 (NB _ (by rw [HB1.out];omega))
  have o5:=old r5
  have o6:=old r6
  have NL:=Vh (show ∀k∈[b1+1,b1],W.heap.size≤k∧w.heap.size≤k∧k∉({z with be:=be'}:Lay).all L by
   have h1:=((HH.out.keep C3.out).memory hs4 hc4 hb4).2.2
   have h2:=HH.out.old
   have h3:=HH.out.chg.size
   have h4:=Z6 r3
   have h5:=HB1.out
   intro k hk
   simp only [List.mem_cons,Vn,or_false] at hk
   refine ⟨by omega,by omega,fun hm=>?_⟩
   rcases h1 k hm with h6|h6
   ·have:=h2 k h6;omega
   ·omega)
  have M4:=Vh ((HH.out.stay C3.out).trans ((HH.out.keep C3.out).memory hs4 hc4 hb4))
  clear r3 r4 C3 rS oS hs4 hc4 hb4 NB
  have p2:∀t f,J6 (some (.cells (ec (e.setHe true)) t f)) 2 (vs l)=some (.cells (ec ((e.setHe true).setL l hl)) t f):=fun t f=>ec_put _ l hl t f
  have hv:(vs l).size=8:=by rw [Qt];exact hl
  go_wp2_with fail
  have HE2:=HE.out
  refine bodyPost_ret (v:=.agg (ec ((e.setHe true).setL l hl))) ?_ (by rfl) ?_
  ·exact YD (by rfl) _ _ b1 ((e.setHe true).setL l hl) (0,0) (by rfl) (by rw [Qc _ _ _ _ _ (by rw [Qc _ _ _ _ _ (by rw [r5,hv];exact Z9 _ _),if_neg (by omega),r6,Zh];rfl),if_pos rfl,Qc _ _ _ _ _ (by rw [r5,hv];exact Z9 _ _),if_neg (by omega),r6,Qg _ _ _ _ (by rw [Zh,Zh])])
  rw [HE2]
  exact ⟨rfl,be',M4.out.loc (((Chg.refl [b1+1,b1] w4).putRow (b1+1) 2 (vs l) (.inl (by simp))).putRow b1 0 _ (.inl (by simp))) NL.out⟩
 ·have HE:=Vh (show hereE e l hl=e by unfold hereE;rw [if_pos hh])
  clear h he hi hX
  go_enter Tryz.func114,Tryz.ntmps114
  try dsimp only [List.append]
  go_wp2_with fail
  refine bodyPost_ret (v:=.agg (ec e)) ?_ (by rfl) ?_
  ·exact YD (by rfl) _ _ w.heap.size e (0,0) (by rfl) (by simp [*])
  rw [HE.out]
  exact ⟨rfl,z.be,HH.out.stay Cz0⟩
end
end
section
attribute [local go_sem ↓] Qv QF Qx QP QG Qs Zg Q7 ZH Zt Qk Qh heap_alloc Ql heap_setCell Qc XG XP XO Zi ZP Zu Xk ZQ Xq Xp Xy Xx
attribute [local go_sem] Qb Qa Qe Qi Qd Qg Qf Qt Zk Zf ZE QB Qw QN QL QM Q6 QJ QA Qr QD QX QI Qq QC Qp Qj Qo Qn Qm Zj Zv lit8 QV Xc ZG ZL ZV Zn ZM Xj ZN QH ZO Zx Zy QZ QY Zb XB
attribute [local simp] Qb Qa Qe Qi Qd Qg Qf Qt Qr Qj Qo Qn Qm QV QH QZ QY Zb QD
attribute [local go_sem ↓] YL Y0 Y1 J5
attribute [local simp] YL
section
variable {W:World} {c:Cg} {z:Lay} {L:List (Po×Pt)} {en:List En} {es:List Ent} {xs:List Int}
theorem zsave_clean (i:Nat) (e:En) (w:World) (h:Msd W w c z L en es xs) (he:en[i]? =some e) (hd:e.di=false):Calls Tryz.prog 122 #[.pointer (some ⟨z.sy,0,none⟩),.int .i64 i] w fun r w'=>r=.returned (.int .i64 0)∧Chg [] w w':=by
 have hi:i<c.li:=by rw [←h.lines];exact (Vg he).1
 have rS:=h.sys
 have rE:=h.ents
 have oS:=old rS
 have oE:=old rE
 have p0:=fun t f=>erow he t f
 have p1:=fun t f=>Qev he t f
 have g0:(0:Int)≤(i:Int):=by omega
 have g1:(i:Int)<(c.li:Int):=by omega
 clear h he hi
 go_enter Tryz.func122,Tryz.ntmps122
 try dsimp only [List.append]
 go_wp2_with fail
 go_ret
 exact Tz2
theorem zsave_dirty (i:Nat) (e:En) (w:World) (h:Msd W w c z L en es xs) (he:en[i]? =some e) (hd:e.di=true):Calls Tryz.prog 122 #[.pointer (some ⟨z.sy,0,none⟩),.int .i64 i] w fun r w'=>r=.returned (.int .i64 (Qd6 c.li c.qu es i))∧∃be',MTo W w c z L {z with be:=be'} L en (pushEs c.li c.qu es i e.l e.h) xs w':=by
 have hi:i<c.li:=by rw [←h.lines];exact (Vg he).1
 have rS:=h.sys
 have rE:=h.ents
 have oS:=old rS
 have oE:=old rE
 have p0:=fun t f=>erow he t f
 have p1:=fun t f=>Qev he t f
 have g0:(0:Int)≤(i:Int):=by omega
 have g1:(i:Int)<(c.li:Int):=by omega
 have HH:=Vh h
 have hp:=fun w1 (c1:Chg [] w w1)=>any_push (h.keep c1).mem (i:Int) e.l e.h
 have HP:=Vh hp
 have n6:=h.ne6
 have NS:=Vh (show z.sy∉[z.q,z.be,z.g,z.b] by simp only [List.mem_cons,Vn,or_false,not_or];exact ⟨n6.1.1,Ne.symm n6.2.2.2.2.2.1,n6.1.2.1,n6.1.2.2.1⟩)
 have NX:=Vh (show w.heap.size∉[z.q,z.be,z.g,z.b] from h.mem.new4 (Nat.le_refl _))
 clear h he hi hp n6
 go_enter Tryz.func122,Tryz.ntmps122
 try dsimp only [List.append]
 go_upto_region 2 with fail
 have r1:(w.alloc (.cells (ec e) 107)).heap[w.heap.size]? =some (.cells (ec e) 107 (0,0)):=by simp
 have C1:=Vh ((Chg.refl [] w).alloc (.cells (ec e) 107))
 clear p0 p1 rE oE
 generalize w.heap.size=b1 at r1 NX ⊢
 generalize w.alloc (.cells (ec e) 107)=w2 at r1 C1 ⊢
 replace rS:=C1.out.keep rS Vn
 have o1:=old r1
 replace oS:=old rS
 go_wp2_with fail
 go_region_held3 (fun w'=>w'.heap[b1]? =some (.cells (ec e) 107 (0,0))∧w'.heap[z.sy]? =some (.cells (z.enc c).toArray 103 (0,0))) (first |exact ⟨hc4.keep r1 NX.out,hc4.keep rS NS.out⟩|exact ⟨r1,rS⟩)
  (first
   |(go_at_call 172;refine (HP.out _ (C1.out.trans (Chg.refl [] w2).drew)).mono ?_;rintro r w' ⟨rfl,be',hs4,hc4,hb4⟩))
 all_goals
  have HN:=Vh ((HH.out.stay (C1.out.trans (Chg.refl [] w2).drew)).trans ((HH.out.keep (C1.out.trans (Chg.refl [] w2).drew)).memory hs4 hc4 hb4))
  clear hs4 hc4 hb4
  go_wp2_with fail
  go_ret
  exact ⟨rfl,be',HN.out⟩
theorem sd_whole {w wr:World} {l:List Nat} {n b o k:Nat} {ys:List Sd} {y:Sd} (h:Sl w 13 (some ⟨b,o,none⟩) n (cat Sd.enc ys)) (hc:Chg l w wr) (hb:b∉l) (hk:k<n) (hy:ys[k]? =some y):
 ∃c t f,wr.heap[b]? =some (.cells c t f)∧Qbo (some (.cells c t f)) (o+k*13) 13=true∧XF (some (.cells c t f)) (o+k*13) 13=sc y:=by
 obtain ⟨cs,t,f,hb,_,hpa⟩:=(h.chg hc (by simpa using hb)).elem (by omega) hk (YI Sd.len hy)
 obtain ⟨r1,r2⟩:=hpa 0 13 (by omega)
 rw [Nat.add_zero] at r1 r2
 refine ⟨cs,t,f,hb,r1,?_⟩
 rw [r2]
 simp [sc,Sd.len,List.take_of_length_le]
def Qh5 (ps:List Pt) (d:Sd):List Pt:=match ps[d.to.toNat]? with
 |some x=>ps.set d.to.toNat {x with dn:=x.dn++[d.m]}
 |none=>ps
def Jf (ps:List Pt) (l:List Sd):List Pt:=l.foldl Qh5 ps
def ports (L:List (Po×Pt)):List Pt:=L.map (·.2)
theorem YG (L:List (Po×Pt)) (i:Nat) (y:Po×Pt):ports (L.set i y)=(ports L).set i y.2:=by unfold ports;rw [List.map_set]
theorem Qhm {L:List (Po×Pt)} {i:Nat} {p:Po} {x:Pt} (h:L[i]? =some (p,x)):(ports L)[i]? =some x:=by unfold ports;rw [List.getElem?_map,h];rfl
theorem Jr {L:List (Po×Pt)} {i:Nat} {x:Pt} (h:(ports L)[i]? =some x):∃p,L[i]? =some (p,x):=by
 unfold ports at h
 rw [List.getElem?_map] at h
 cases hl:L[i]? with
 |none=>rw [hl] at h;cases h
 |some y=>rw [hl] at h;obtain ⟨p,x'⟩:=y;cases h;exact ⟨p,rfl⟩
theorem sendP_snoc (ps:List Pt) (l:List Sd) (d:Sd):Jf ps (l++[d])=Qh5 (Jf ps l) d:=by unfold Jf;rw [List.foldl_append];rfl
theorem sendTo_some {ps:List Pt} {k:Nat} {x:Pt} {m:Ms} (h:ps[k]? =some x):Qh5 ps ⟨(k:Int),m⟩=ps.set k {x with dn:=x.dn++[m]}:=by
 unfold Qh5
 rw [show (⟨(k:Int),m⟩:Sd).to.toNat=k from rfl,h]
theorem sendP_dn (l:List Sd):∀(ps:List Pt) (M:Nat),(∀x∈ps,x.dn.length≤M)→∀x∈Jf ps l,x.dn.length≤M+l.length:=by
 induction l with
 |nil=>intro ps M h x hx;have:=h x hx;simp;omega
 |cons d l ih=>
  intro ps M h x hx
  have:=ih (Qh5 ps d) (M+1) (by
   intro y hy
   unfold Qh5 at hy
   split at hy
   ·rename_i x0 hx0
    rcases List.mem_or_eq_of_mem_set hy with h1|rfl
    ·have:=h y h1;omega
    ·have:=h x0 (List.mem_of_getElem? hx0);simp;omega
   ·have:=h y hy;omega) x hx
  simp;omega
theorem Qd5 (i:Nat) (e e':En) (B:Option Addr) (n nc:Nat) (ds:List Sd) (w:World) (h:Msd W w c z L en es xs) (hT:Tab W) (he:en[i]? =some e) (hn:n=ds.length) (hS:Sl w 13 B n (cat Sd.enc ds)) (hA:0<n→∀a,B=some a→a.block∉z.all L)
 (hto:∀d∈ds,0≤d.to∧d.to<c.co∧mg d.m=true) (M:Nat) (hM:∀x∈ports L,x.dn.length≤M) (hMn:M+n≤1000):
 Calls Tryz.prog 116 #[.pointer (some ⟨z.sy,0,none⟩),.int .i64 i,.agg (ec e'),.slice B n nc] w fun r w'=>r=.returned (.tuple #[])∧∃L',MTo W w c z L z L' (en.set i e') es xs w'∧ports L'=Jf (ports L) ds:=by
 have hi:i<c.li:=by rw [←h.lines];exact (Vg he).1
 have rS:=h.sys
 have rE:=h.ents
 have oS:=old rS
 have oE:=old rE
 have p0:=fun t=>erowHas he t
 have p1:=fun t f=>sq_putRow En.len e' he t f
 have p2:∀t f,J6 (some (.cells (sq En.enc en []) t f)) (i*15) (ec e')=some (.cells (sq En.enc (en.set i e') []) t f):=p1
 have g0:(0:Int)≤(i:Int):=by omega
 have g1:(i:Int)<(c.li:Int):=by omega
 have gn:(n:Int)≤1000:=by omega
 have HH:=Vh h
 have HT:=Vh hT
 have HN:=Vh hn
 have HS:=Vh hS
 have HA:=Vh hA
 have HO:=Vh hto
 have HX:=Vh hM
 have HY:=Vh hMn
 have NE:=Vh (show z.sy≠z.en from h.ne6.1.2.2.2.2)
 have nse:z.sy≠z.en:=NE.out
 have nes:z.en≠z.sy:=Ne.symm nse
 clear h he hi hT hn hS hA hto hM hMn p1
 go_enter Tryz.func116,Tryz.ntmps116
 try dsimp only [List.append]
 go_upto_region 1 with fail
 have r1:(w.alloc (.cells (ec e') 107)).heap[w.heap.size]? =some (.cells (ec e') 107 (0,0)):=by simp
 have C1:=Vh ((Chg.refl [] w).alloc (.cells (ec e') 107))
 have nsb:z.sy≠w.heap.size:=by have:=oS.lt;omega
 have neb:z.en≠w.heap.size:=by have:=oE.lt;omega
 generalize w.heap.size=b1 at r1 nsb neb ⊢
 generalize w.alloc (.cells (ec e') 107)=w2 at r1 C1 ⊢
 replace rS:=C1.out.keep rS Vn
 replace rE:=C1.out.keep rE Vn
 have o1:=old r1
 replace oS:=old rS
 replace oE:=old rE
 go_region
 have q1:(putRow w2.drew z.en (i*15) (ec e')).heap[z.en]? =some (.cells (sq En.enc (en.set i e') []) 107 (0,0)):=by
  rw [Qc _ _ _ _ _ (by rw [Qk,rE,Zh];exact p0 _),if_pos rfl,Qk,rE]
  exact p2 _ _
 have q2:(putRow w2.drew z.en (i*15) (ec e')).heap[z.sy]? =some (.cells (z.enc c).toArray 103 (0,0)):=by
  rw [Qc _ _ _ _ _ (by rw [Qk,rE,Zh];exact p0 _),if_neg nse,Qk,rS]
 have c3:Chg [z.en] w2 (putRow w2.drew z.en (i*15) (ec e')):=((Chg.refl [z.en] w2).drew).putRow _ _ _ (.inl (by simp))
 have M1:=Vh ((HH.out.stay C1.out).trans ((HH.out.keep C1.out).other (ks':=z.ks) (en':=en.set i e') (k:=z.en) (.inr rfl) c3 q2 HH.out.six q1 (by rw [List.length_set];exact HH.out.lines)))
 clear p0 p2 rS rE oS oE o1 r1 q1 q2 c3 nse nes nsb neb C1
 generalize putRow w2.drew z.en (i*15) (ec e')=w3 at M1 ⊢
 go_wp2_with fail
 go_loopw [19] (fun ix wr=>∃(j:Nat) (L':List (Po×Pt)),j≤n∧ix=.int .i64 j∧MTo W w c z L z L' (en.set i e') es xs wr∧ports L'=Jf (ports L) (ds.take j)) (fun ix _=>n-(intOf ix).toNat)
 case atStart=>exact ⟨0,L,by omega,rfl,M1.out,by simp;rfl⟩
 case round=>
  clear M1
  obtain ⟨j,L',hj,rfl,hm,hp⟩:=hrel
  have MM:=Vh hm
  have HP:=Vh hp
  clear hm hp
  by_cases hlt:j<n
  ·have g2:(j:Int)<(n:Int):=by omega
   have g3:(0:Int)≤(j:Int):=by omega
   obtain ⟨b2,o2,rfl⟩:=HS.out.addr (by omega)
   have hjd:j<ds.length:=by rw [←HN.out];exact hlt
   obtain ⟨d,hy⟩:∃d,ds[j]? =some d:=⟨ds[j]'hjd,List.getElem?_eq_getElem _⟩
   obtain ⟨cs,ts,fs,hb2,i2,p2⟩:=sd_whole HS.out MM.out.2.1 (HA.out (by omega) _ rfl) hlt hy
   have ht:ds.take (j+1)=ds.take j++[d]:=by
    rw [List.take_succ_eq_append_getElem hjd,show ds[j]'hjd=d from (Vg hy).2]
   have hmd:=HO.out d (List.mem_of_getElem? hy)
   have HD:=Vh ht
   clear hy ht
   obtain ⟨tk,m⟩:=d
   obtain ⟨k,rfl⟩:∃k:Nat,tk=k:=⟨tk.toNat,by have h0:0≤tk:=hmd.1;omega⟩
   have hk:k<L'.length:=by rw [MM.out.1.cores];have:=hmd.2.1;exact Int.ofNat_lt.1 this
   obtain ⟨⟨p,x⟩,hLk⟩:∃y,L'[k]? =some y:=⟨L'[k]'hk,List.getElem?_eq_getElem _⟩
   have hdn:x.dn.length+1≤1000:=by
    have h1:=sendP_dn (ds.take j) (ports L) M HX.out x (by rw [←HP.out];exact List.mem_of_getElem? (Qhm hLk))
    rw [List.length_take] at h1
    have:=HY.out
    omega
   have g4:(k:Int)<(c.co:Int):=hmd.2.1
   have g5:(0:Int)≤(k:Int):=by omega
   have rS:=MM.out.1.sys
   have oS:=old rS
   have HLK:=Vh hLk
   have HDN:=Vh hdn
   have HMM:=Vh hmd.2.2
   clear hLk hdn hmd hk hjd
   go_wp2_with fail
   have r4:(wr.alloc (.cells (sc ⟨(k:Int),m⟩) 226)).heap[wr.heap.size]? =some (.cells (sc ⟨(k:Int),m⟩) 226 (0,0)):=by simp
   have C4:=Vh ((Chg.refl [] wr).alloc (.cells (sc ⟨(k:Int),m⟩) 226))
   have NX:=Vh (show wr.heap.size∉z.all L' from fun hm=>by have:=MM.out.1.old _ hm;omega)
   have NSZ:=Vh (show wr.heap.size≤(wr.alloc (.cells (sc ⟨(k:Int),m⟩) 226)).heap.size by simp)
   generalize wr.heap.size=b4 at r4 NX NSZ ⊢
   generalize wr.alloc (.cells (sc ⟨(k:Int),m⟩) 226)=w4 at r4 C4 NSZ ⊢
   replace rS:=C4.out.keep rS Vn
   clear hb2 i2 p2 oS
   have oS:=old rS
   have o4:=old r4
   go_wp2_with fail
   go_region_held3 (fun w'=>w'.heap[b4]? =some (.cells (sc ⟨(k:Int),m⟩) 226 (0,0))∧w'.heap[z.sy]? =some (.cells (z.enc c).toArray 103 (0,0)))
    (first |exact ⟨N.2.1.keep (((Chg.refl [] w4).drew.alloc (.cells (msc m) 184)).keep r4 Vn) NX.out,N.1.sys⟩|exact ⟨((Chg.refl [] w4).drew.alloc _).keep r4 Vn,((Chg.refl [] w4).drew.alloc _).keep rS Vn⟩|exact ⟨r4,rS⟩)
    (first
     |(go_at_call 120;refine ((MM.out.1.keep (C4.out.trans ((Chg.refl [] w4).drew.alloc (.cells (msc m) 184)))).send_dn HT.out HLK.out (some ⟨w4.heap.size,0,none⟩) 1 1 [m] rfl (Told.one w4.drew m).1 (fun a ha hm=>by cases ha;have h1:=MM.out.1.old _ hm;have h2:=NSZ.out;have h3:=C4.out.size;simp at h1;omega) HDN.out (by simpa using HMM.out)).mono ?_;rintro r w' ⟨rfl,p',_,N⟩))
   all_goals
    have HNN:=Vh (MM.out.trans (((MM.out.1.stay (C4.out.trans ((Chg.refl [] w4).drew.alloc (.cells (msc m) 184))))).trans N))
    clear N r4 rS oS o4
    go_wp2_with fail
    go_roundw
    case rel=>
     refine ⟨j+1,_,by omega,by go_num,HNN.out,?_⟩
     rw [YG,HP.out,HD.out]
     rw [sendP_snoc]
     have h1:=Qhm HLK.out
     rw [HP.out] at h1
     rw [sendTo_some h1]
    case measure=>simp [intOf];omega
  ·obtain rfl:j=n:=by omega
   go_wp2_with fail
   go_end0
   refine ⟨rfl,L',MM.out,?_⟩
   have:=HP.out
   rw [HN.out,List.take_length] at this
   exact this
end
end
section
attribute [local go_sem ↓] Qv QF Qx QP QG Qs Zg Q7 ZH Zt Qk Qh heap_alloc Ql heap_setCell Qc XG XP XO Zi ZP Zu Xk ZQ Xq Xp Xy Xx
attribute [local go_sem] Qb Qa Qe Qi Qd Qg Qf Qt Zk Zf ZE QB Qw QN QL QM Q6 QJ QA Qr QD QX QI Qq QC Qp Qj Qo Qn Qm Zj Zv lit8 QV Xc ZG ZL ZV Zn ZM Xj ZN QH ZO Zx Zy QZ QY Zb XB
attribute [local simp] Qb Qa Qe Qi Qd Qg Qf Qt Qr Qj Qo Qn Qm QV QH QZ QY Zb QD
attribute [local go_sem ↓] YL Y0 Y1 J5
attribute [local simp] YL
theorem zenc_k {z:Lay} {c:Cg} {o:Nat} {k:Int} (h0:10≤o) (h:z.ks[o-10]? =some k):(z.enc c).toArray[o]? =some (.int .u64 k):=by
 unfold Lay.enc
 rw [List.getElem?_toArray,List.getElem?_append_right (by simp [Cg.enc];omega),show (c.enc++[Value.pointer (some ⟨z.q,0,none⟩),Value.slice (some ⟨z.po,0,none⟩) c.co c.co,Value.slice (some ⟨z.en,0,none⟩) c.li c.li]).length=10 by simp [Cg.enc],List.getElem?_map,h]
 rfl
theorem zenc_put {z:Lay} {c:Cg} {o:Nat} {k:Int} (h0:10≤o):(z.enc c).toArray.setIfInBounds o (.int .u64 k)=(({z with ks:=z.ks.set (o-10) k}:Lay).enc c).toArray:=by
 unfold Lay.enc
 rw [List.setIfInBounds_toArray,List.set_append_right _ _ (by simp [Cg.enc];omega),show (c.enc++[Value.pointer (some ⟨z.q,0,none⟩),Value.slice (some ⟨z.po,0,none⟩) c.co c.co,Value.slice (some ⟨z.en,0,none⟩) c.li c.li]).length=10 by simp [Cg.enc],List.map_set]
section
variable {W:World} {c:Cg} {z:Lay} {L:List (Po×Pt)} {en:List En} {es:List Ent} {xs:List Int}
theorem Msd.count {w:World} (h:Msd W w c z L en es xs) (o:Nat) (h0:10≤o) (h1:o<16):Calls Tryz.prog 117 #[.pointer (some ⟨z.sy,o,none⟩),.int .u64 1] w fun e w'=>(∃v,e=.returned v)∧∃ks',MTo W w c z L {z with ks:=ks'} L en es xs w':=by
 have hk:o-10<z.ks.length:=by rw [h.six];omega
 refine (add_any z.sy o z.ks[o-10] w _ _ h.sys (zenc_k h0 (List.getElem?_eq_getElem hk))).mono ?_
 rintro e w' ⟨rfl,rfl⟩
 have nes:z.en≠z.sy:=Ne.symm h.ne6.1.2.2.2.2
 refine ⟨⟨_,rfl⟩,z.ks.set (o-10) (IntKind.u64.wrap (z.ks[o-10]+1)),h.other (k:=z.sy) (.inl rfl) ((Chg.refl [z.sy] w).setCell z.sy o _ (.inl (by simp))) ?_ (by rw [List.length_set];exact h.six) ?_ h.lines⟩
 ·rw [heap_setCell,if_pos rfl,h.sys,Qf,zenc_put h0]
 ·rw [heap_setCell,if_neg nes];exact h.ents
theorem zdrain_off (k:Int) (w:World) (h:Msd W w c z L en es xs) (hk:inB k c.li=false):Calls Tryz.prog 88 #[.pointer (some ⟨z.sy,0,none⟩),.int .i64 k] w fun r w'=>r=.returned (.int .i64 1)∧w=w':=by
 have HH:=Vh h
 have HK:=Vh hk
 clear h hk
 go_enter Tryz.func88,Tryz.ntmps88
 try dsimp only [List.append]
 go_wp2_with (first |(go_at_call 69;refine (Z8 k false HK.out _ HH.out).mono ?_;rintro e w' ⟨rfl,rfl⟩))
 go_ret
 exact ⟨rfl,rfl⟩
theorem drain_val (es:List Ent) (k:Int):Qbr es k=0∨Qbr es k=14:=by unfold Qbr;split<;>simp
theorem zdrain_ok (k:Int) (w:World) (h:Msd W w c z L en es xs) (hk:inB k c.li=true):Calls Tryz.prog 88 #[.pointer (some ⟨z.sy,0,none⟩),.int .i64 k] w fun r w'=>r=.returned (.int .i64 (Qbr es k))∧∃be' ks',MTo W w c z L {z with be:=be',ks:=ks'} L en (J4 es k) (JW xs es k) w':=by
 have rS:=h.sys
 have HH:=Vh h
 have HK:=Vh hk
 have HD:=Vh (any_drain h.mem k)
 have hv:=drain_val es k
 generalize Qbr es k=v at HD hv ⊢
 clear h hk
 rcases hv with rfl|rfl
 ·skip
  go_enter Tryz.func88,Tryz.ntmps88
  try dsimp only [List.append]
  go_wp2_with (first |(go_at_call 69;refine (Z8 k true HK.out _ HH.out).mono ?_;rintro e w' ⟨rfl,rfl⟩))
  refine HD.out.mono ?_
  rintro r w2 ⟨rfl,be',hs,hc,hb⟩
  have M2:=Vh (HH.out.memory hs hc hb)
  replace rS:=M2.out.1.sys
  clear hs hc hb
  go_wp2_with fail
  refine (M2.out.1.count 15 (by decide) (by decide)).mono ?_
  rintro r w3 ⟨⟨v,rfl⟩,ks',M3⟩
  have HN:=Vh (M2.out.trans M3)
  clear M3
  go_wp2_with fail
  go_ret
  exact ⟨rfl,be',ks',HN.out⟩
 ·skip
  go_enter Tryz.func88,Tryz.ntmps88
  try dsimp only [List.append]
  go_wp2_with (first |(go_at_call 69;refine (Z8 k true HK.out _ HH.out).mono ?_;rintro e w' ⟨rfl,rfl⟩))
  refine HD.out.mono ?_
  rintro r w2 ⟨rfl,be',hs,hc,hb⟩
  have M2:=Vh (HH.out.memory hs hc hb)
  clear hs hc hb rS
  go_wp2_with fail
  go_ret
  exact ⟨rfl,be',z.ks,M2.out⟩
theorem zslots_ok (i:Nat) (p:Po) (x:Pt) (w:World) (h:Msd W w c z L en es xs) (hy:L[i]? =some (p,x)):Calls Tryz.prog 67 #[.pointer (some ⟨z.sy,0,none⟩),.int .i64 i] w (Qga w (live x.s.1)):=by
 have hi:i<c.co:=by rw [←h.cores];exact (Vg hy).1
 have hk:=h.ok _ (List.mem_of_getElem? hy)
 have HG:=Vh (gslots_any w hk.1)
 have rP:=h.ports
 have c0:(sq penc L [])[i*7]? =some (.pointer (some ⟨p.g,0,none⟩)):=Qaf hy 0 (by decide)
 have HH:=Vh h
 have HI:=Vh hi
 clear h hy hk hi
 go_enter Tryz.func67,Tryz.ntmps67
 try dsimp only [List.append]
 go_wp2_with (first |(go_at_call 93;refine (Y2 i _ HH.out HI.out).mono ?_;rintro e w' ⟨rfl,rfl⟩))
 refine HG.out.mono ?_
 rintro e w2 ⟨A,n,rfl,hs,hc⟩
 have HS:=Vh hs
 have HC:=Vh hc
 clear hs hc
 go_wp2_with fail
 go_ret
 exact ⟨A,n,rfl,HS.out,HC.out⟩
end
end
section
attribute [local go_sem ↓] Qv QF Qx QP QG Qs Zg Q7 ZH Zt Qk Qh heap_alloc Ql heap_setCell Qc XG XP XO Zi ZP Zu Xk ZQ Xq Xp Xy Xx
attribute [local go_sem] Qb Qa Qe Qi Qd Qg Qf Qt Zk Zf ZE QB Qw QN QL QM Q6 QJ QA Qr QD QX QI Qq QC Qp Qj Qo Qn Qm Zj Zv lit8 QV Xc ZG ZL ZV Zn ZM Xj ZN QH ZO Zx Zy QZ QY Zb XB
attribute [local simp] Qb Qa Qe Qi Qd Qg Qf Qt Qr Qj Qo Qn Qm QV QH QZ QY Zb QD
attribute [local go_sem ↓] YL Y0 Y1 J5
attribute [local simp] YL
section
variable {W:World} {c:Cg} {z:Lay} {L:List (Po×Pt)} {en:List En} {es:List Ent} {xs:List Int}
theorem zup_none (i:Nat) (p:Po) (x:Pt) (w:World) (h:Msd W w c z L en es xs) (hy:L[i]? =some (p,x)) (hx:x.up=[]):Calls Tryz.prog 80 #[.pointer (some ⟨z.sy,0,none⟩),.int .i64 i] w fun r w'=>r=.returned (.int .i64 14)∧Chg [] w w':=by
 have hi:i<c.co:=by rw [←h.cores];exact (Vg hy).1
 have HG:=Vh (h.head_up hy (by rw [hx];simp))
 rw [hx,Qfo,show Qde ([]:List Ms)=false from rfl] at HG
 have HH:=Vh h
 have HI:=Vh hi
 clear h hy hi hx
 go_enter Tryz.func80,Tryz.ntmps80
 try dsimp only [List.append]
 go_wp2_with (first |(go_at_call 93;refine (Y2 i _ HH.out HI.out).mono ?_;rintro e w' ⟨rfl,rfl⟩))
 refine HG.out.mono ?_
 rintro r w2 ⟨rfl,c2⟩
 have HC:=Vh c2
 clear c2
 go_wp2_with fail
 go_ret
 exact ⟨rfl,HC.out.alloc _⟩
theorem Qbz (w:World) (o:Obj):(w.alloc o).heap[w.heap.size]? =some o:=by simp
theorem Qfd {w:World} {b:Nat} (h:Old w b):¬b=w.heap.size:=by have:=h.lt;omega
def NewZ (W w:World) (c:Cg) (z z':Lay) (L:List (Po×Pt)) (en:List En) (es:List Ent) (xs:List Int) (b3:Nat) (m:Ms) (e':En) (ds:List Sd) (v:Int) (p s y:Value) (wx:World):Prop:=
 ∃b8 A na,p=.pointer (some ⟨b8,0,none⟩)∧s=.slice A ds.length na∧y=.int .i64 v∧wx.heap[b8]? =some (.cells (ec e') 107 (0,0))∧wx.heap[b3]? =some (.cells (msc m) 184 (0,0))∧Sl wx 13 A ds.length (cat Sd.enc ds)∧
  (∀a,A=some a→w.heap.size≤a.block∧a.block∉z'.all L)∧(w.heap.size≤b8∧b8∉z'.all L)∧b3∉z'.all L∧MTo W w c z L z' L en es xs wx
section
variable {w w5 w6:World} {z':Lay} {b3:Nat} {m:Ms} {e':En} {ds:List Sd} {v:Int} {A:Option Addr} {na:Nat}
theorem NewZ.put {b8:Nat} (hWw:W.heap.size≤w.heap.size) (n3:b3∉z'.all L) (P:MTo W w c z L z' L en es xs w6) (r8:w6.heap[b8]? =some (.cells (ec enZ) 107 (0,0))) (r3:w6.heap[b3]? =some (.cells (msc m) 184 (0,0))) (h8:w.heap.size≤b8) (n8:b8∉z'.all L) (h38:b8≠b3)
 (hs:Sl w6 13 A ds.length (cat Sd.enc ds)) (hA:∀a,A=some a→w.heap.size≤a.block∧a.block∉z'.all L∧a.block≠b8):NewZ W w c z z' L en es xs b3 m e' ds v (.pointer (some ⟨b8,0,none⟩)) (.slice A ds.length na) (.int .i64 v) (putRow w6 b8 0 (ec e')):=by
 have hh:ZX (w6.heap[b8]?) 0 (ec e').size=true:=by rw [r8,Qe,Zh,Zh];decide
 have cp:Chg [b8] w6 (putRow w6 b8 0 (ec e')):=(Chg.refl [b8] w6).putRow b8 0 _ (.inl (by simp))
 refine ⟨b8,A,na,rfl,rfl,rfl,?_,cp.keep r3 (by simpa using Ne.symm h38),hs.chg cp (fun a ha=>by simpa using (hA a ha).2.2),fun a ha=>⟨(hA a ha).1,(hA a ha).2.1⟩,⟨h8,n8⟩,n3,P.loc cp ?_⟩
 ·rw [Qc _ _ _ _ _ hh,if_pos rfl,r8,Qg _ _ _ _ (by rw [Zh,Zh])]
 ·intro k hk
  rw [List.mem_singleton] at hk
  subst hk
  exact ⟨Nat.le_trans hWw h8,h8,n8⟩
theorem NewZ.putA {b8:Nat} (hWw:W.heap.size≤w.heap.size) (n3:b3∉z'.all L) (P:MTo W w c z L z' L en es xs w5) (hc:Chg [] w5 w6) (r8:w5.heap[b8]? =some (.cells (ec enZ) 107 (0,0))) (r3:w5.heap[b3]? =some (.cells (msc m) 184 (0,0))) (h8:w.heap.size≤b8) (n8:b8∉z'.all L) (h38:b8≠b3)
 (hs:Sl w6 13 A ds.length (cat Sd.enc ds)) (hA:∀a,A=some a→w5.heap.size≤a.block):NewZ W w c z z' L en es xs b3 m e' ds v (.pointer (some ⟨b8,0,none⟩)) (.slice A ds.length na) (.int .i64 v) (putRow w6 b8 0 (ec e')):=by
 refine NewZ.put hWw n3 (P.trans (P.1.stay hc)) (hc.keep r8 (by simp)) (hc.keep r3 (by simp)) h8 n8 h38 hs fun a ha=>?_
 have h1:=hA a ha
 have h2:=Z6 r8
 exact ⟨Nat.le_trans P.2.1.size h1,fun hm=>by have:=P.1.old _ hm;omega,by omega⟩
theorem NewZ.putB {o:Obj} (hWw:W.heap.size≤w.heap.size) (n3:b3∉z'.all L) (P:MTo W w c z L z' L en es xs w5) (hc:Chg [] (w5.alloc (.cells (ec enZ) 107)) w6) (r3:w5.heap[b3]? =some (.cells (msc m) 184 (0,0)))
 (hs:Sl w6 13 A ds.length (cat Sd.enc ds)) (hA:∀a,A=some a→(w5.alloc o).heap.size≤a.block):NewZ W w c z z' L en es xs b3 m e' ds v (.pointer (some ⟨w5.heap.size,0,none⟩)) (.slice A ds.length na) (.int .i64 v) (putRow w6 w5.heap.size 0 (ec e')):=by
 have P2:=P.trans (P.1.stay ((Chg.refl [] w5).alloc (.cells (ec enZ) 107)))
 have n8:w5.heap.size∉z'.all L:=fun hm=>by have:=P.1.old _ hm;omega
 refine NewZ.putA hWw n3 P2 hc (by simp) (((Chg.refl [] w5).alloc _).keep r3 (by simp)) P.2.1.size n8 (by have:=Z6 r3;omega) hs fun a ha=>?_
 have h1:=hA a ha
 simpa using h1
theorem NewZ.putC (hWw:W.heap.size≤w.heap.size) (n3:b3∉z'.all L) (P:MTo W w c z L z' L en es xs w5) (hc:Chg [] w5 w6) (r3:w5.heap[b3]? =some (.cells (msc m) 184 (0,0)))
 (hs:Sl w6 13 A ds.length (cat Sd.enc ds)) (hA:∀a,A=some a→w5.heap.size≤a.block):NewZ W w c z z' L en es xs b3 m e' ds v (.pointer (some ⟨w6.heap.size,0,none⟩)) (.slice A ds.length na) (.int .i64 v) (w6.alloc (.cells (ec e') 107)):=by
 have P6:=P.trans (P.1.stay hc)
 have ca:=(Chg.refl [] w6).alloc (.cells (ec e') 107)
 refine ⟨w6.heap.size,A,na,rfl,rfl,rfl,by simp,ca.keep (hc.keep r3 (by simp)) (by simp),hs.chg ca (by simp),fun a ha=>?_,⟨P6.2.1.size,fun hm=>by have:=P6.1.old _ hm;omega⟩,n3,P6.trans (P6.1.stay ca)⟩
 have h1:=hA a ha
 exact ⟨Nat.le_trans P.2.1.size h1,fun hm=>by have:=P.1.old _ hm;omega⟩
end
theorem zup_go (i k:Nat) (p:Po) (x:Pt) (m:Ms) (rest:List Ms) (e e':En) (l:List Int) (hl:l.length=8) (ds:List Sd) (v:Int) (w:World) (h:Msd W w c z L en es xs) (hT:Tab W) (hy:L[i]? =some (p,x)) (hx:x.up=m::rest) (hlu:x.up.length≤1000) (hk:m.li=(k:Int)) (he:en[k]? =some e) (hX:ln (over xs es) k=l)
 (hr:askE (hereE e l hl) i m=((e',ds),v)) (hto:∀d∈ds,0≤d.to∧d.to<c.co∧mg d.m=true) (M:Nat) (hM:∀x∈ports L,x.dn.length≤M) (hMn:M+ds.length≤1000):
 Calls Tryz.prog 80 #[.pointer (some ⟨z.sy,0,none⟩),.int .i64 i] w fun r w'=>(v≠0∧r=.returned (.int .i64 v)∧∃be',MTo W w c z L {z with be:=be'} L en es xs w')∨
  (v=0∧r=.returned (.int .i64 0)∧∃be' ks' L',MTo W w c z L {z with be:=be',ks:=ks'} L' (en.set k e') es xs w'∧ports L'=Jf ((ports L).set i {x with up:=rest}) ds):=by
 have hi:i<c.co:=by rw [←h.cores];exact (Vg hy).1
 have HG:=Vh (h.head_up hy hlu)
 rw [hx,Qcu,show Qde (m::rest)=true from rfl] at HG
 have HR:=Vh (fun w1 (c1:Chg [] w w1)=>zhere_ok k e w1 (h.keep c1) he l hl hX)
 have HK:=Vh (fun w1 (t1:Tab w1)=>hr▸dask_any (hereE e l hl) i m w1 t1)
 have HH:=Vh h
 have HI:=Vh hi
 have HL:=Vh hlu
 have HX:=Vh hx
 have HY:=Vh hy
 have HT:=Vh hT
 have HO:=Vh hto
 have HE:=Vh he
 have HMM:=Vh hM
 have HMN:=Vh hMn
 have HTT:=Vh (fun w1 (c1:Chg (z.all L) w w1)=>(hT.keep h.chg (by simp)).keep c1 (fun hm=>by have h1:=h.new _ hm;have h2:=hT.old.lt;omega))
 have NX:=Vh (show ∀k,w.heap.size≤k→k∉z.all L from fun k hk hm=>by have:=h.old k hm;omega)
 clear h hy hi hx hlu hT he hX hr hto hM hMn
 go_enter Tryz.func80,Tryz.ntmps80
 try dsimp only [List.append]
 go_wp2_with (first |(go_at_call 93;refine (Y2 i _ HH.out HI.out).mono ?_;rintro e w' ⟨rfl,rfl⟩))
 refine HG.out.mono ?_
 rintro r w2 ⟨rfl,c2⟩
 go_wp2_with fail
 have C3:=Vh (c2.alloc (.cells (msc m) 184))
 have r3:(w2.alloc (.cells (msc m) 184)).heap[w2.heap.size]? =some (.cells (msc m) 184 (0,0)):=by simp
 have N3:=Vh (NX.out w2.heap.size c2.size)
 have B3:=Vh c2.size
 generalize w2.heap.size=b3 at r3 N3 B3 ⊢
 generalize w2.alloc (.cells (msc m) 184)=w3 at r3 C3 ⊢
 have o3:=old r3
 clear c2
 go_upto_region 7 with fail
 have HS3:=Vh (show W.heap.size≤w.heap.size from HH.out.chg.size)
 have N8:=Vh (NX.out w3.heap.size C3.out.size)
 go_cut [8,9,10] (fun p s y wx=>∃be',NewZ W w c z {z with be:=be'} L en es xs b3 m e' ds v p s y wx)
 case first=>
  go_region_held3 (fun w'=>w'.heap[b3]? =some (.cells (msc m) 184 (0,0)))
   (first |exact r6|exact ((Chg.refl [] _).alloc _).keep r6 Vn|(rw [Qc _ _ _ _ _ (by rw [r9,Qe,Zh,Zh];decide),if_neg n98];exact r6)|exact r5|exact ((Chg.refl [] _).alloc _).keep r5 Vn|exact r3|exact ((Chg.refl [] w3).drew.alloc _).keep r3 Vn)
   (first
    |(go_at_call 114;(try rw [hk]);(first
     |(refine (HR.out _ (C3.out.trans (Chg.refl [] w3).drew)).mono ?_;rintro r w' ⟨rfl,be',M4⟩;have r5:=M4.2.1.keep r3 N3.out;have P5:=(HH.out.stay (C3.out.trans (Chg.refl [] w3).drew)).trans M4;have o5:=old r5)
     |(refine (HR.out _ (C3.out.trans ((Chg.refl [] w3).drew.alloc (.cells (ec enZ) 107)))).mono ?_;rintro r w' ⟨rfl,be',M4⟩;have r5:=M4.2.1.keep (((Chg.refl [] w3).drew.alloc (.cells (ec enZ) 107)).keep r3 Vn) N3.out;have P5:=(HH.out.stay (C3.out.trans ((Chg.refl [] w3).drew.alloc (.cells (ec enZ) 107)))).trans M4;have o5:=old r5;have r8:w'.heap[w3.heap.size]? =some (.cells (ec enZ) 107 (0,0)):=M4.2.1.keep (Qbz w3.drew (.cells (ec enZ) 107)) N8.out;have n8:=Qfd o3)))
    |(go_at_call 113;(first
     |(refine (HK.out _ (HTT.out _ P5.2.1)).mono ?_;rintro r w' ⟨A,na,rfl,hs5,hA5,hc5⟩;have r6:=hc5.keep r5 Vn;have o6:=old r6;(try have r9:=hc5.keep r8 Vn);(try have n98:=n8))
     |(refine (HK.out _ (HTT.out _ (P5.2.1.alloc _))).mono ?_;rintro r w' ⟨A,na,rfl,hs5,hA5,hc5⟩;have r6:=hc5.keep (((Chg.refl [] _).alloc _).keep r5 Vn) Vn;have o6:=old r6;have r9:=hc5.keep (Qbz _ (.cells (ec enZ) 107)) Vn;have n98:=Qfd o5))))
  all_goals
   go_wp2_with fail
   go_meet
   case rel=>
    have n3:b3∉({z with be:=be'}:Lay).all L:=fun hm=>by
     rcases M4.2.2 _ hm with h|h
     ·exact N3.out h
     ·have:=o3.lt;simp at h;omega
    first
     |exact ⟨be',NewZ.putC HS3.out n3 P5 hc5 r5 hs5 hA5⟩
     |exact ⟨be',NewZ.putB HS3.out n3 P5 hc5 r5 hs5 hA5⟩
     |exact ⟨be',NewZ.putA HS3.out n3 P5 hc5 r8 r5 C3.out.size (fun hm=>by rcases M4.2.2 _ hm with h|h;exact N8.out h;simp at h;omega) (by have:=o3.lt;omega) hs5 hA5⟩
 case rest=>
  obtain ⟨be',hz⟩:=hcut
  rename World=>w9
  obtain ⟨b8,A,na,rfl,rfl,rfl,r8,r9,hs,hA,⟨h8,n8⟩,n3,P⟩:=hz
  have PP:=Vh P
  have o8:=old r8
  have o9:=old r9
  by_cases hv:v=0
  ·have HSL:=Vh hs
   have HAL:=Vh hA
   have NB3:=Vh n3
   have NB8:=Vh n8
   clear hs hA n3 n8 P h8
   obtain rfl:=hv
   go_wp2_with fail
   refine (PP.out.1.pop_up HY.out HL.out).mono ?_
   rintro r w10 ⟨rfl,p',_,M10⟩
   replace r8:=M10.2.1.keep r8 NB8.out
   replace r9:=M10.2.1.keep r9 NB3.out
   have HM10:=Vh M10
   clear M10 o8 o9
   have o8:=old r8
   have o9:=old r9
   have hbec:=Qd5 k e e' A ds.length na ds w10 HM10.out.1 HT.out HE.out rfl (HSL.out.chg HM10.out.2.1 (fun a ha=>(HAL.out a ha).2)) (by
    intro h0 a ha hm
    rcases HM10.out.2.2 _ hm with h1|h1
    ·exact (HAL.out a ha).2 h1
    ·obtain ⟨b,o,rfl⟩:=HSL.out.addr h0
     obtain ⟨cs,ts,fs,hb2,_,_⟩:=sd_whole HSL.out (Chg.refl [] w9) (by simp) h0 (List.getElem?_eq_getElem h0)
     cases ha
     have:=Z6 hb2
     simp at h1
     omega) HO.out M (by
    intro y hy
    rw [YG] at hy
    rcases List.mem_or_eq_of_mem_set hy with h1|rfl
    ·exact HMM.out y h1
    ·exact HMM.out x (List.mem_of_getElem? (Qhm HY.out))) HMN.out
   have HBE:=Vh hbec
   clear hbec
   go_wp2_with fail
   refine HBE.out.mono ?_
   rintro r w11 ⟨rfl,L',M11,hp⟩
   have HM11:=Vh M11
   have HPP:=Vh hp
   clear M11 hp r8 r9 o8 o9
   go_wp2_with fail
   refine (HM11.out.1.count 10 (by decide) (by decide)).mono ?_
   rintro r w12 ⟨⟨v,rfl⟩,ks',M12⟩
   have HM12:=Vh M12
   clear M12
   go_wp2_with fail
   go_ret
   have hpp:ports L'=Jf ((ports L).set i {x with up:=rest}) ds:=by rw [HPP.out,YG,HX.out];rfl
   first
    |exact .inr ⟨rfl,rfl,be',ks',L',((PP.out.trans HM10.out).trans HM11.out).trans HM12.out,hpp⟩
    |exact ⟨rfl,be',ks',L',((PP.out.trans HM10.out).trans HM11.out).trans HM12.out,hpp⟩
  ·have tv:(v !=0)=true:=by simpa using hv
   clear r8 r9 hs hA n3 n8 P h8 o8 o9
   go_wp2_with fail
   go_ret
   first
    |exact .inl ⟨hv,rfl,be',PP.out⟩
    |exact ⟨rfl,be',PP.out⟩
end
end
section
attribute [local go_sem ↓] Qv QF Qx QP QG Qs Zg Q7 ZH Zt Qk Qh heap_alloc Ql heap_setCell Qc XG XP XO Zi ZP Zu Xk ZQ Xq Xp Xy Xx
attribute [local go_sem] Qb Qa Qe Qi Qd Qg Qf Qt Zk Zf ZE QB Qw QN QL QM Q6 QJ QA Qr QD QX QI Qq QC Qp Qj Qo Qn Qm Zj Zv lit8 QV Xc ZG ZL ZV Zn ZM Xj ZN QH ZO Zx Zy QZ QY Zb XB
attribute [local simp] Qb Qa Qe Qi Qd Qg Qf Qt Qr Qj Qo Qn Qm QV QH QZ QY Zb QD
attribute [local go_sem ↓] YL Y0 Y1 J5
attribute [local simp] YL
section
variable {W:World} {c:Cg} {z:Lay} {L:List (Po×Pt)} {en:List En} {es:List Ent} {xs:List Int}
theorem zanswer_none (i:Nat) (p:Po) (x:Pt) (w:World) (h:Msd W w c z L en es xs) (hy:L[i]? =some (p,x)) (hx:x.an=[]):Calls Tryz.prog 81 #[.pointer (some ⟨z.sy,0,none⟩),.int .i64 i] w fun r w'=>r=.returned (.int .i64 14)∧∃p',MTo W w c z L z (L.set i (p',{x with an:=[]})) en es xs w':=by
 have hi:i<c.co:=by rw [←h.cores];exact (Vg hy).1
 have HG:=Vh (h.pop_an hy (by rw [hx];simp))
 rw [hx,Qfo,show Qde ([]:List Ms)=false from rfl] at HG
 have HH:=Vh h
 have HI:=Vh hi
 clear h hy hi hx
 go_enter Tryz.func81,Tryz.ntmps81
 try dsimp only [List.append]
 go_wp2_with (first |(go_at_call 93;refine (Y2 i _ HH.out HI.out).mono ?_;rintro e w' ⟨rfl,rfl⟩))
 refine HG.out.mono ?_
 rintro r w2 ⟨rfl,p',_,M2⟩
 have HM2:=Vh M2
 clear M2
 go_wp2_with fail
 go_ret
 exact ⟨rfl,p',HM2.out.trans (HM2.out.1.stay ((Chg.refl [] w2).alloc _))⟩
theorem zanswer_go (i k:Nat) (p:Po) (x:Pt) (m:Ms) (rest:List Ms) (e e':En) (ds:List Sd) (v:Int) (w:World) (h:Msd W w c z L en es xs) (hT:Tab W) (hy:L[i]? =some (p,x)) (hx:x.an=m::rest) (hlu:x.an.length≤1000) (hk:m.li=(k:Int)) (he:en[k]? =some e)
 (hr:ansE e i m=((e',ds),v)) (hto:∀d∈ds,0≤d.to∧d.to<c.co∧mg d.m=true) (M:Nat) (hM:∀x∈ports L,x.dn.length≤M) (hMn:M+ds.length≤1000):
 Calls Tryz.prog 81 #[.pointer (some ⟨z.sy,0,none⟩),.int .i64 i] w fun r w'=>(v≠0∧r=.returned (.int .i64 v)∧∃p',MTo W w c z L z (L.set i (p',{x with an:=rest})) en es xs w')∨
  (v=0∧r=.returned (.int .i64 0)∧∃ks' L',MTo W w c z L {z with ks:=ks'} L' (en.set k e') es xs w'∧ports L'=Jf ((ports L).set i {x with an:=rest}) ds):=by
 have hi:i<c.co:=by rw [←h.cores];exact (Vg hy).1
 have hli:k<c.li:=by rw [←h.lines];exact (Vg he).1
 have HG:=Vh (h.pop_an hy hlu)
 have hxt:x.an.tail=rest:=by rw [hx];rfl
 have hpx:(ports L)[i]? =some x:=Qhm hy
 rw [hxt,hx,Qcu,show Qde (m::rest)=true from rfl] at HG
 have HK:=Vh (fun w1 (t1:Tab w1)=>hr▸danswer_any e i m w1 t1)
 have HH:=Vh h
 have HI:=Vh hi
 have HT:=Vh hT
 have HO:=Vh hto
 have HE:=Vh he
 have HMM:=Vh hM
 have HMN:=Vh hMn
 have HPX:=Vh hpx
 have HTT:=Vh (fun w1 (c1:Chg (z.all L) w w1)=>(hT.keep h.chg (by simp)).keep c1 (fun hm=>by have h1:=h.new _ hm;have h2:=hT.old.lt;omega))
 have p0:=fun t f=>erow he t f
 have p1:=fun t f=>Qev he t f
 have g0:(0:Int)≤(k:Int):=by omega
 have g1:(k:Int)<(c.li:Int):=by omega
 clear h hy hi hx hlu hT he hr hto hM hMn hxt hpx hli
 go_enter Tryz.func81,Tryz.ntmps81
 try dsimp only [List.append]
 go_wp2_with (first |(go_at_call 93;refine (Y2 i _ HH.out HI.out).mono ?_;rintro e w' ⟨rfl,rfl⟩))
 refine HG.out.mono ?_
 rintro r w2 ⟨rfl,p',_,M2⟩
 have HM2:=Vh M2
 have rS:=M2.1.sys
 have rE:=M2.1.ents
 clear M2
 generalize hL1:L.set i (p',{x with an:=rest})=L1 at HM2
 have HL1:=Vh hL1
 clear hL1
 have HW2:=Vh (show ∀k,w2.heap.size≤k→k∉z.all L1 from fun k hk hm=>by have:=HM2.out.1.old k hm;omega)
 go_wp2_with fail
 have C3:=Vh ((Chg.refl [] w2).alloc (.cells (msc m) 184))
 have r3:(w2.alloc (.cells (msc m) 184)).heap[w2.heap.size]? =some (.cells (msc m) 184 (0,0)):=by simp
 have N3:=Vh (HW2.out w2.heap.size (Nat.le_refl _))
 replace rS:=C3.out.keep rS Vn
 replace rE:=C3.out.keep rE Vn
 have hsy:z.sy<w2.heap.size:=Z6 HM2.out.1.sys
 have hse:z.en<w2.heap.size:=Z6 HM2.out.1.ents
 generalize w2.heap.size=b3 at r3 N3 hsy hse ⊢
 have ne1:z.sy≠b3:=by omega
 have ne2:z.en≠b3:=by omega
 clear hsy hse
 generalize w2.alloc (.cells (msc m) 184)=w3 at r3 C3 rS rE ⊢
 have o3:=old r3
 have oS:=old rS
 have oE:=old rE
 go_upto_region 7 with fail
 have HS3:=Vh (show W.heap.size≤w2.heap.size from HM2.out.1.chg.size)
 have N8:=Vh (HW2.out w3.heap.size C3.out.size)
 go_cut [8,9,10] (fun p s y wx=>NewZ W w2 c z z L1 en es xs b3 m e' ds v p s y wx)
 case first=>
  go_region_held3 (fun w'=>w'.heap[b3]? =some (.cells (msc m) 184 (0,0))∧w'.heap[z.sy]? =some (.cells (z.enc c).toArray 103 (0,0))∧w'.heap[z.en]? =some (.cells (sq En.enc en []) 107 (0,0)))
   (first |exact ⟨r6,s6,e6⟩|exact ⟨((Chg.refl [] _).alloc _).keep r6 Vn,((Chg.refl [] _).alloc _).keep s6 Vn,((Chg.refl [] _).alloc _).keep e6 Vn⟩|(refine ⟨?_,?_,?_⟩;(rw [Qc _ _ _ _ _ (by rw [r9,Qe,Zh,Zh];decide),if_neg n98];exact r6);(rw [Qc _ _ _ _ _ (by rw [r9,Qe,Zh,Zh];decide),if_neg (Qfd oS)];exact s6);(rw [Qc _ _ _ _ _ (by rw [r9,Qe,Zh,Zh];decide),if_neg (Qfd oE)];exact e6))|exact ⟨r3,rS,rE⟩|exact ⟨((Chg.refl [] w3).drew.alloc _).keep r3 Vn,((Chg.refl [] w3).drew.alloc _).keep rS Vn,((Chg.refl [] w3).drew.alloc _).keep rE Vn⟩)
   (first
    |(go_at_call 118;(first
     |(refine (HK.out _ (HTT.out _ (HM2.out.2.1.trans (C3.out.trans (Chg.refl [] w3).drew |>.mono (by simp))))).mono ?_;rintro r w' ⟨A,na,rfl,hs5,hA5,hc5⟩;have r6:=hc5.keep r3 Vn;have s6:=hc5.keep rS Vn;have e6:=hc5.keep rE Vn;have o6:=old r6)
     |(refine (HK.out _ (HTT.out _ (HM2.out.2.1.trans (C3.out.trans ((Chg.refl [] w3).drew.alloc (.cells (ec enZ) 107)) |>.mono (by simp))))).mono ?_;rintro r w' ⟨A,na,rfl,hs5,hA5,hc5⟩;have r6:=hc5.keep (((Chg.refl [] w3).drew.alloc (.cells (ec enZ) 107)).keep r3 Vn) Vn;have s6:=hc5.keep (((Chg.refl [] w3).drew.alloc (.cells (ec enZ) 107)).keep rS Vn) Vn;have e6:=hc5.keep (((Chg.refl [] w3).drew.alloc (.cells (ec enZ) 107)).keep rE Vn) Vn;have o6:=old r6;have r9:w'.heap[w3.heap.size]? =some (.cells (ec enZ) 107 (0,0)):=hc5.keep (Qbz w3.drew (.cells (ec enZ) 107)) Vn;have n98:=Qfd o3))))
  all_goals
   go_wp2_with fail
   go_meet
   case rel=>
    first
     |exact NewZ.putC HS3.out N3.out (HM2.out.1.stay (C3.out.trans (Chg.refl [] w3).drew)) hc5 r3 hs5 hA5
     |exact NewZ.putA HS3.out N3.out (HM2.out.1.stay (C3.out.trans ((Chg.refl [] w3).drew.alloc (.cells (ec enZ) 107)))) hc5 (Qbz w3.drew (.cells (ec enZ) 107)) (((Chg.refl [] w3).drew.alloc (.cells (ec enZ) 107)).keep r3 Vn) C3.out.size N8.out (by have:=o3.lt;omega) hs5 hA5
 case rest=>
  have hz:=hcut
  clear hcut rS rE oS oE
  rename World=>w9
  obtain ⟨b8,A,na,rfl,rfl,rfl,r8,r9,hs,hA,⟨h8,n8⟩,n3,P⟩:=hz
  have PP:=Vh P
  have o8:=old r8
  have o9:=old r9
  by_cases hv:v=0
  ·have HSL:=Vh hs
   have HAL:=Vh hA
   have hbec:=Qd5 k e e' A ds.length na ds w9 PP.out.1 HT.out HE.out rfl HSL.out (fun h0 a ha=>(HAL.out a ha).2) HO.out M (by
    intro y hy
    rw [←HL1.out,YG] at hy
    rcases List.mem_or_eq_of_mem_set hy with h1|rfl
    ·exact HMM.out y h1
    ·exact HMM.out x (List.mem_of_getElem? HPX.out)) HMN.out
   have HBE:=Vh hbec
   clear hs hA n3 n8 P h8 hbec
   obtain rfl:=hv
   go_wp2_with fail
   refine HBE.out.mono ?_
   rintro r w11 ⟨rfl,L',M11,hp⟩
   have HM11:=Vh M11
   have HPP:=Vh hp
   clear M11 hp r8 r9 o8 o9
   go_wp2_with fail
   refine (HM11.out.1.count 11 (by decide) (by decide)).mono ?_
   rintro r w12 ⟨⟨v,rfl⟩,ks',M12⟩
   have HM12:=Vh M12
   clear M12
   go_wp2_with fail
   go_ret
   have hpp:ports L'=Jf ((ports L).set i {x with an:=rest}) ds:=by rw [HPP.out,←HL1.out,YG]
   first
    |exact .inr ⟨rfl,rfl,ks',L',((HM2.out.trans PP.out).trans HM11.out).trans HM12.out,hpp⟩
    |exact ⟨rfl,ks',L',((HM2.out.trans PP.out).trans HM11.out).trans HM12.out,hpp⟩
  ·have tv:(v !=0)=true:=by simpa using hv
   clear r8 r9 hs hA n3 n8 P h8 o8 o9
   go_wp2_with fail
   go_ret
   have hfin:∃p',MTo W w c z L z (L.set i (p',{x with an:=rest})) en es xs w9:=⟨p',by rw [HL1.out];exact HM2.out.trans PP.out⟩
   first
    |exact .inl ⟨hv,rfl,hfin⟩
    |exact ⟨rfl,hfin⟩
end
end
end Go.Proofs.YtlidfghgjjffaaaGreatDoor
