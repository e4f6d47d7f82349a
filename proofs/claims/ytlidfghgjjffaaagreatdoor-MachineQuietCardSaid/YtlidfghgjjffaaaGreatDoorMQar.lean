/- Texts of the walk, one behind the other: Rec Red Ree Rex Mcj Mck Mcl Tca Mgu. No condition. -/
import Derived.Test.YtlidfghgjjffaaaGreatDoorMQaa
import Derived.Test.YtlidfghgjjffaaaGreatDoorMQac
import Derived.Test.YtlidfghgjjffaaaGreatDoorMQaj
import Derived.Test.YtlidfghgjjffaaaGreatDoorMQal
import Derived.Test.YtlidfghgjjffaaaGreatDoorMQan
import Derived.Test.YtlidfghgjjffaaaGreatDoorMQap
import Derived.Test.YtlidfghgjjffaaaGreatDoorMQaq
import Derived.BigQuiet
import Derived.ChangeKeysEq
import Derived.Deep.Cut
import Derived.Deep.CutBlock
import Derived.Deep.CutRange
import Derived.Deep.DeepCutAuto
import Derived.Deep.QuietTactic
import Derived.Deep.RegionHeld3
import Derived.Deep.RegionWith
import Derived.Laws.StructEq
import Derived.StillTailTactics
namespace Go.Proofs.YtlidfghgjjffaaaGreatDoor
open Go.RowKit
set_option linter.unusedVariables false
set_option maxHeartbeats 1000000
set_option maxRecDepth 100000
attribute [local go_sem ↓] QG Qs Qk Qh heap_alloc Ql heap_setCell Qc Xd ZF loadPts Qhd Xe XK XJ XI Xg pts_0 pts_1 pts_2 pts_3 pts_4
attribute [local go_sem] Qb Qa Qe Qi Qd Qg Qf QB Qw QJ QA Qr QD QX QI Qq QC Qp Qj Qo Qn Xb widePts QE ZI Xf ZJ XH Qct Qcs Qcr Qcq Qcp pts_lit Qbd pts_one pts_ne Qhl Qhk Qhj Qhi Qhh
attribute [local simp ↓] Qk Qh heap_alloc Ql heap_setCell Qc
attribute [local simp] Qb Qa Qe Qi Qd Qg Qf Qr Qj Qo Qn QE Qbd QD
attribute [local go_sem] insZ_op insZ_a insZ_b insZ_c insZ_im
section
theorem rgood_all (i:Ins) (h:YY i=true) (w:World):Calls Tryz.prog 71 #[.agg (insc i)] w fun e w'=>e=.returned (.bool true)∧w'=w.alloc (.cells (insc i) 65):=by
 obtain ⟨op,a,b,c,m⟩:=i
 have hop:=(Zw h).1
 simp only [YY,Bool.and_eq_true] at h
 obtain ⟨_,ha,hb,hc,hm⟩:=h
 simp only at hop ha hb hc hm
 have h:op=0∨op=1∨op=2∨op=3∨op=4∨op=5∨op=6∨op=7∨op=8∨op=9∨op=10∨op=11∨op=12∨op=13∨op=14∨op=15∨op=16∨op=17∨op=18∨op=19∨op=20∨op=21∨op=22:=by omega
 clear hop
 rcases h with rfl|rfl|rfl|rfl|rfl|rfl|rfl|rfl|rfl|rfl|rfl|rfl|rfl|rfl|rfl|rfl|rfl|rfl|rfl|rfl|rfl|rfl|rfl
 ·rw [show hasA 0=false by decide] at ha
  obtain rfl:a=0:=by simpa [YN] using ha
  rw [show hasB 0=false by decide] at hb
  obtain rfl:b=0:=by simpa [YN] using hb
  rw [show hasC 0=false by decide] at hc
  obtain rfl:c=0:=by simpa [YN] using hc
  unfold JJ XR at hm
  rw [show hasI 0=false by decide,show Qac 0=false by decide] at hm
  obtain rfl:m=0:=by simpa using hm
  exact rgood_0 w
 ·rw [show hasA 1=true by decide] at ha
  have ha':=ZB ha
  rw [show hasB 1=false by decide] at hb
  obtain rfl:b=0:=by simpa [YN] using hb
  rw [show hasC 1=false by decide] at hc
  obtain rfl:c=0:=by simpa [YN] using hc
  unfold JJ XR at hm
  rw [show hasI 1=true by decide,show Qac 1=false by decide] at hm
  have hm': -2147483648≤m∧m≤2147483647:=by simp at hm;omega
  exact rgood_1 a m ha' hm' w
 ·rw [show hasA 2=true by decide] at ha
  have ha':=ZB ha
  rw [show hasB 2=true by decide] at hb
  have hb':=ZB hb
  rw [show hasC 2=true by decide] at hc
  have hc':=ZB hc
  unfold JJ XR at hm
  rw [show hasI 2=false by decide,show Qac 2=false by decide] at hm
  obtain rfl:m=0:=by simpa using hm
  exact rgood_2 a b c ha' hb' hc' w
 ·rw [show hasA 3=true by decide] at ha
  have ha':=ZB ha
  rw [show hasB 3=true by decide] at hb
  have hb':=ZB hb
  rw [show hasC 3=true by decide] at hc
  have hc':=ZB hc
  unfold JJ XR at hm
  rw [show hasI 3=false by decide,show Qac 3=false by decide] at hm
  obtain rfl:m=0:=by simpa using hm
  exact rgood_3 a b c ha' hb' hc' w
 ·rw [show hasA 4=true by decide] at ha
  have ha':=ZB ha
  rw [show hasB 4=true by decide] at hb
  have hb':=ZB hb
  rw [show hasC 4=true by decide] at hc
  have hc':=ZB hc
  unfold JJ XR at hm
  rw [show hasI 4=false by decide,show Qac 4=false by decide] at hm
  obtain rfl:m=0:=by simpa using hm
  exact rgood_4 a b c ha' hb' hc' w
 ·rw [show hasA 5=true by decide] at ha
  have ha':=ZB ha
  rw [show hasB 5=true by decide] at hb
  have hb':=ZB hb
  rw [show hasC 5=true by decide] at hc
  have hc':=ZB hc
  unfold JJ XR at hm
  rw [show hasI 5=false by decide,show Qac 5=false by decide] at hm
  obtain rfl:m=0:=by simpa using hm
  exact rgood_5 a b c ha' hb' hc' w
 ·rw [show hasA 6=true by decide] at ha
  have ha':=ZB ha
  rw [show hasB 6=true by decide] at hb
  have hb':=ZB hb
  rw [show hasC 6=true by decide] at hc
  have hc':=ZB hc
  unfold JJ XR at hm
  rw [show hasI 6=false by decide,show Qac 6=false by decide] at hm
  obtain rfl:m=0:=by simpa using hm
  exact rgood_6 a b c ha' hb' hc' w
 ·rw [show hasA 7=true by decide] at ha
  have ha':=ZB ha
  rw [show hasB 7=true by decide] at hb
  have hb':=ZB hb
  rw [show hasC 7=true by decide] at hc
  have hc':=ZB hc
  unfold JJ XR at hm
  rw [show hasI 7=false by decide,show Qac 7=false by decide] at hm
  obtain rfl:m=0:=by simpa using hm
  exact rgood_7 a b c ha' hb' hc' w
 ·rw [show hasA 8=true by decide] at ha
  have ha':=ZB ha
  rw [show hasB 8=true by decide] at hb
  have hb':=ZB hb
  rw [show hasC 8=false by decide] at hc
  obtain rfl:c=0:=by simpa [YN] using hc
  unfold JJ XR at hm
  rw [show hasI 8=true by decide,show Qac 8=false by decide] at hm
  have hm': -2147483648≤m∧m≤2147483647:=by simp at hm;omega
  exact rgood_8 a b m ha' hb' hm' w
 ·rw [show hasA 9=true by decide] at ha
  have ha':=ZB ha
  rw [show hasB 9=true by decide] at hb
  have hb':=ZB hb
  rw [show hasC 9=false by decide] at hc
  obtain rfl:c=0:=by simpa [YN] using hc
  unfold JJ XR at hm
  rw [show hasI 9=true by decide,show Qac 9=false by decide] at hm
  have hm': -2147483648≤m∧m≤2147483647:=by simp at hm;omega
  exact rgood_9 a b m ha' hb' hm' w
 ·rw [show hasA 10=true by decide] at ha
  have ha':=ZB ha
  rw [show hasB 10=true by decide] at hb
  have hb':=ZB hb
  rw [show hasC 10=true by decide] at hc
  have hc':=ZB hc
  unfold JJ XR at hm
  rw [show hasI 10=false by decide,show Qac 10=false by decide] at hm
  obtain rfl:m=0:=by simpa using hm
  exact rgood_10 a b c ha' hb' hc' w
 ·rw [show hasA 11=true by decide] at ha
  have ha':=ZB ha
  rw [show hasB 11=true by decide] at hb
  have hb':=ZB hb
  rw [show hasC 11=true by decide] at hc
  have hc':=ZB hc
  unfold JJ XR at hm
  rw [show hasI 11=false by decide,show Qac 11=false by decide] at hm
  obtain rfl:m=0:=by simpa using hm
  exact rgood_11 a b c ha' hb' hc' w
 ·rw [show hasA 12=false by decide] at ha
  obtain rfl:a=0:=by simpa [YN] using ha
  rw [show hasB 12=true by decide] at hb
  have hb':=ZB hb
  rw [show hasC 12=false by decide] at hc
  obtain rfl:c=0:=by simpa [YN] using hc
  unfold JJ XR at hm
  rw [show hasI 12=true by decide,show Qac 12=false by decide] at hm
  have hm': -2147483648≤m∧m≤2147483647:=by simp at hm;omega
  exact rgood_12 b m hb' hm' w
 ·rw [show hasA 13=false by decide] at ha
  obtain rfl:a=0:=by simpa [YN] using ha
  rw [show hasB 13=true by decide] at hb
  have hb':=ZB hb
  rw [show hasC 13=false by decide] at hc
  obtain rfl:c=0:=by simpa [YN] using hc
  unfold JJ XR at hm
  rw [show hasI 13=true by decide,show Qac 13=false by decide] at hm
  have hm': -2147483648≤m∧m≤2147483647:=by simp at hm;omega
  exact rgood_13 b m hb' hm' w
 ·rw [show hasA 14=false by decide] at ha
  obtain rfl:a=0:=by simpa [YN] using ha
  rw [show hasB 14=true by decide] at hb
  have hb':=ZB hb
  rw [show hasC 14=false by decide] at hc
  obtain rfl:c=0:=by simpa [YN] using hc
  unfold JJ XR at hm
  rw [show hasI 14=true by decide,show Qac 14=false by decide] at hm
  have hm': -2147483648≤m∧m≤2147483647:=by simp at hm;omega
  exact rgood_14 b m hb' hm' w
 ·rw [show hasA 15=false by decide] at ha
  obtain rfl:a=0:=by simpa [YN] using ha
  rw [show hasB 15=false by decide] at hb
  obtain rfl:b=0:=by simpa [YN] using hb
  rw [show hasC 15=false by decide] at hc
  obtain rfl:c=0:=by simpa [YN] using hc
  unfold JJ XR at hm
  rw [show hasI 15=false by decide,show Qac 15=false by decide] at hm
  obtain rfl:m=0:=by simpa using hm
  exact rgood_15 w
 ·rw [show hasA 16=false by decide] at ha
  obtain rfl:a=0:=by simpa [YN] using ha
  rw [show hasB 16=false by decide] at hb
  obtain rfl:b=0:=by simpa [YN] using hb
  rw [show hasC 16=false by decide] at hc
  obtain rfl:c=0:=by simpa [YN] using hc
  unfold JJ XR at hm
  rw [show hasI 16=false by decide,show Qac 16=false by decide] at hm
  obtain rfl:m=0:=by simpa using hm
  exact rgood_16 w
 ·rw [show hasA 17=false by decide] at ha
  obtain rfl:a=0:=by simpa [YN] using ha
  rw [show hasB 17=false by decide] at hb
  obtain rfl:b=0:=by simpa [YN] using hb
  rw [show hasC 17=false by decide] at hc
  obtain rfl:c=0:=by simpa [YN] using hc
  unfold JJ XR at hm
  rw [show hasI 17=true by decide,show Qac 17=true by decide] at hm
  have hm':0≤m∧m≤2147483647:=by simp at hm;omega
  exact rgood_17 m hm' w
 ·rw [show hasA 18=true by decide] at ha
  have ha':=ZB ha
  rw [show hasB 18=true by decide] at hb
  have hb':=ZB hb
  rw [show hasC 18=false by decide] at hc
  obtain rfl:c=0:=by simpa [YN] using hc
  unfold JJ XR at hm
  rw [show hasI 18=true by decide,show Qac 18=true by decide] at hm
  have hm':0≤m∧m≤2147483647:=by simp at hm;omega
  exact rgood_18 a b m ha' hb' hm' w
 ·rw [show hasA 19=true by decide] at ha
  have ha':=ZB ha
  rw [show hasB 19=true by decide] at hb
  have hb':=ZB hb
  rw [show hasC 19=false by decide] at hc
  obtain rfl:c=0:=by simpa [YN] using hc
  unfold JJ XR at hm
  rw [show hasI 19=true by decide,show Qac 19=true by decide] at hm
  have hm':0≤m∧m≤2147483647:=by simp at hm;omega
  exact rgood_19 a b m ha' hb' hm' w
 ·rw [show hasA 20=true by decide] at ha
  have ha':=ZB ha
  rw [show hasB 20=true by decide] at hb
  have hb':=ZB hb
  rw [show hasC 20=false by decide] at hc
  obtain rfl:c=0:=by simpa [YN] using hc
  unfold JJ XR at hm
  rw [show hasI 20=true by decide,show Qac 20=true by decide] at hm
  have hm':0≤m∧m≤2147483647:=by simp at hm;omega
  exact rgood_20 a b m ha' hb' hm' w
 ·rw [show hasA 21=true by decide] at ha
  have ha':=ZB ha
  rw [show hasB 21=false by decide] at hb
  obtain rfl:b=0:=by simpa [YN] using hb
  rw [show hasC 21=false by decide] at hc
  obtain rfl:c=0:=by simpa [YN] using hc
  unfold JJ XR at hm
  rw [show hasI 21=false by decide,show Qac 21=false by decide] at hm
  obtain rfl:m=0:=by simpa using hm
  exact rgood_21 a ha' w
 ·rw [show hasA 22=false by decide] at ha
  obtain rfl:a=0:=by simpa [YN] using ha
  rw [show hasB 22=false by decide] at hb
  obtain rfl:b=0:=by simpa [YN] using hb
  rw [show hasC 22=false by decide] at hc
  obtain rfl:c=0:=by simpa [YN] using hc
  unfold JJ XR at hm
  rw [show hasI 22=false by decide,show Qac 22=false by decide] at hm
  obtain rfl:m=0:=by simpa using hm
  exact rgood_22 w
theorem sum_code {i:Ins} (h:(0≤i.op∧i.op≤22)∧(0≤i.a∧i.a<8)∧(0≤i.b∧i.b<8)∧(0≤i.c∧i.c<8)∧ -2147483648≤i.im∧i.im≤2147483647) (m:Int) (hm:m % 4294967296=i.im % 4294967296):
 IntKind.u64.wrap (IntKind.u64.wrap (IntKind.u64.wrap (IntKind.u64.wrap (IntKind.u64.wrap i.op+IntKind.u64.wrap (IntKind.u64.wrap i.a*256))+IntKind.u64.wrap (IntKind.u64.wrap i.b*4096))+IntKind.u64.wrap (IntKind.u64.wrap i.c*65536))+IntKind.u64.wrap (IntKind.u64.wrap m*4294967296))=JQ i:=by
 simp only [Qg2]
 unfold JQ
 omega
theorem sum_code2 {i:Ins} (h:(0≤i.op∧i.op≤22)∧(0≤i.a∧i.a<8)∧(0≤i.b∧i.b<8)∧(0≤i.c∧i.c<8)∧ -2147483648≤i.im∧i.im≤2147483647) (m:Int) (hm:m % 4294967296=i.im % 4294967296):
 IntKind.u64.wrap (IntKind.u64.wrap (IntKind.u64.wrap (IntKind.u64.wrap (IntKind.u64.wrap i.op+IntKind.u64.wrap (IntKind.u64.wrap i.a*256))+IntKind.u64.wrap (IntKind.u64.wrap i.b*4096))+IntKind.u64.wrap (IntKind.u64.wrap i.c*65536))+IntKind.u64.wrap (m*4294967296))=JQ i:=by
 simp only [Qg2]
 unfold JQ
 omega
theorem rencode (i:Ins) (h:YY i=true) (w:World):Calls Tryz.prog 39 #[.agg (insc i)] w fun e w'=>e=.returned (.tuple #[.int .u64 (JQ i),.int .i64 0])∧Chg [] w w':=by
 have ⟨h1,h2,h3,h4,h5⟩:=Zw h
 have hx:(w.alloc (.cells (insc i) 65)).heap[w.heap.size]? =some (.cells (insc i) 65 (0,0)):=by simp
 have HC:=Vh ((Chg.refl [] w).alloc (.cells (insc i) 65))
 have HG:=Vh (fun w=>rgood_all i h w)
 have HB:=Vh (show (0≤i.op∧i.op≤22)∧(0≤i.a∧i.a<8)∧(0≤i.b∧i.b<8)∧(0≤i.c∧i.c<8)∧ -2147483648≤i.im∧i.im≤2147483647 from ⟨h1,h2,h3,h4,h5⟩)
 have k1: -2147483648≤i.im:=h5.1
 have k2:i.im≤2147483647:=h5.2
 clear h h1 h2 h3 h4 h5
 cases hn:decide (i.im<0)
 all_goals
  go_enter Tryz.func39,Tryz.ntmps39
  go_wp2_with fail
  generalize hw1:w.alloc (.cells (insc i) 65)=w1 at hx HC ⊢
  generalize hz:w.heap.size=p at hx ⊢
  refine (HG.out w1).mono ?_
  rintro e w2 ⟨rfl,rfl⟩
  have hx2:=((Chg.refl [] w1).alloc (.cells (insc i) 65)).keep hx (by simp)
  have HC2:=Vh (HC.out.alloc (.cells (insc i) 65))
  have ox:=old hx
  clear hw1 hz
  go_wp2_with fail
  go_ret2
  refine ⟨?_,HC2.out⟩
  first
   |(rw [sum_code HB.out i.im rfl];rfl)
   |(rw [sum_code2 HB.out (i.im+4294967296) (by omega)];rfl)
end
end Go.Proofs.YtlidfghgjjffaaaGreatDoor
namespace Go.Proofs.YtlidfghgjjffaaaGreatDoor
open Go.RowKit
set_option linter.unusedVariables false
set_option maxHeartbeats 1000000
set_option maxRecDepth 100000
attribute [local go_sem ↓] Qv QF Qx QP QG Qs Qk Qh heap_alloc Ql heap_setCell Qc X7 Xl Xd ZF Yj Xs Yi Xr X1 X0 XW XX XY Xe XK XJ XI Xg Yq Yr Yp Ym Yn YC Yy Xv YA YB Yz Yx
attribute [local go_sem] Qb Qa Qe Qi Qd Qg Qf QB Qw QN QL QM Q6 QJ QA Qr QD QX QI Qq QC Qp Qj Qo Qn XV Xb Yh Q5 Xm Xn JC XZ ZU ZT ZS ZR X6 X5 X2 X3 X4 QE ZI Xf ZJ XH Q8 Xt Yo Xu JP Z3 Z2 Z1 Z0 ZZ Yv Yw Yu Ys Yt ZY QS QT QR QK Qt Zk
attribute [local simp ↓] Qk Qh heap_alloc Ql heap_setCell Qc
attribute [local simp] Qb Qa Qe Qi Qd Qg Qf Qr Qj Qo Qn Q5 QE Q8 QS QT QR QK Qt QD
attribute [local go_sem ↓] Qh
section
def uenc (x:Int):List Value:=[.int .u64 x]
theorem uenc_len (x:Int):(uenc x).length=1:=rfl
theorem uenc_one (x:Int):∀v∈uenc x,v.oneCell'=true:=by intro v hv;simp only [uenc,List.mem_singleton] at hv;subst hv;rfl
theorem cat_uenc (xs:List Int):cat uenc xs=xs.map (Value.int .u64):=by
 induction xs with
 |nil=>rfl
 |cons x xs ih=>rw [cat_cons,ih];rfl
theorem u_info:(Tryz.prog.info? 46).map (fun i=>(i.zero,i.size,i.bytes))=some (some (.int .u64 0),1,8):=by kernel_rfl
theorem eltU:Elt Tryz.prog 26 46 1 8 (.int .u64 0) uenc where
 slice:=Tryz.underlying26
 info:=u_info
 zero:=rfl
 zone:=by intro v hv;simp [Value.cells] at hv;subst hv;rfl
 pos:=by omega
 len:=uenc_len
 one:=uenc_one
theorem rcode {w:World} {q:Nat} {A:Option Addr} {n cap:Nat} {is:List Ins} (hs:Sl w 5 A n (cat Ins.enc is)) (hn:is.length=n) (h5:n≤5000) (hg:∀i∈is,YY i=true) (hq:Old w q):
 Calls Tryz.prog 21 #[.slice A n cap] w fun e w'=>∃be A' c',e=.returned (.slice A' n c')∧Vec 1 46 uenc w' q be A' c' (is.map JQ)∧(be=q∨w.heap.size≤be)∧Chg [] w w':=by
 have HS:=Vh hs
 have HN:=Vh hn
 have HG:=Vh hg
 have HQ:=Vh hq
 have H5:=Vh h5
 have hl5:(n:Int)≤5000:=by omega
 clear hs hn hg hq h5
 go_enter Tryz.func21,Tryz.ntmps21
 go_wp2_with fail
 go_loopw [3,4] (fun o i wr=>∃(k be cap':Nat) (A':Option Addr),k≤n∧i=.int .i64 k∧o=.slice A' k cap'∧Vec 1 46 uenc wr q be A' cap' ((is.take k).map JQ)∧(be=q∨w.heap.size≤be)∧Chg [] w wr) (fun _ i _=>n-(intOf i).toNat)
 case atStart=>exact ⟨0,q,0,none,by omega,rfl,rfl,Vec.nil ..,.inl rfl,Chg.refl _ _⟩
 case round=>
  obtain ⟨k,be,cap',A',hk,rfl,rfl,hv,hbe,hc⟩:=hrel
  have HV:=Vh hv
  have HBE:=Vh hbe
  have HC:=Vh hc
  clear hv hbe hc
  by_cases hlt:k<n
  ·obtain ⟨x,hx⟩:∃x,is[k]? =some x:=⟨is[k]'(by rw [HN.out];exact hlt),List.getElem?_eq_getElem _⟩
   have HX:=Vh hx
   have HLT:=Vh hlt
   have HGX:=Vh (HG.out x (List.mem_of_getElem? hx))
   have g1:(k:Int)<(n:Int):=by omega
   have g0:(0:Int)≤(k:Int):=by omega
   obtain ⟨b0,o0,hA⟩:=HS.out.addr (by omega)
   subst hA
   obtain ⟨cA,tA,fA,hA,_,hpart⟩:=HS.out.elem (by omega) hlt (YI Ins.len hx)
   obtain ⟨hin,hpt⟩:=hpart 0 5 (by omega)
   have hAr:=HC.out.keep hA (by simp)
   have oA:=old hAr
   rw [Nat.add_zero] at hin hpt
   rw [show ((Ins.enc x).drop 0 |>.take 5).toArray=insc x from rfl] at hpt
   clear hx hlt hA hpart
   go_wp2_with fail
   refine (rencode x HGX.out _).mono ?_
   rintro e w1 ⟨rfl,c1⟩
   have c2:Chg [] wr (w1.alloc (.cells #[.int .u64 (JQ x)] 46)):=c1.alloc _
   have hb2:(w1.alloc (.cells #[.int .u64 (JQ x)] 46)).heap[w1.heap.size]? =some (.cells #[.int .u64 (JQ x)] 46 (0,0)):=by simp
   have hsl:Sl (w1.alloc (.cells #[.int .u64 (JQ x)] 46)) 1 (some ⟨w1.heap.size,0,none⟩) 1 (cat uenc [JQ x]):=⟨rfl,.inr ⟨w1.heap.size,0,_,_,(0,0),rfl,hb2,rfl⟩⟩
   have htk:((is.take k).map JQ).length=k:=by simp;have:=HN.out;omega
   obtain ⟨be',cp,A2,w2,happ,hv2,hbe2,hc2⟩:=Vec.acc (ty:=26) eltU (w0:=w) (HC.out.trans c2) (HV.out.keep c2 (by simp)) HBE.out HQ.out hsl (c:=1) rfl (by rw [htk];have:=H5.out;omega) (by rw [htk];have:=H5.out;simp only [maxLen];omega)
   rw [htk] at happ
   have HV2:=Vh hv2
   have HBE2:=Vh hbe2
   have HC2:=Vh hc2
   clear hv2 hbe2 hc2 hsl hb2 c1 c2
   go_wp2_with fail
   refine ⟨⟨k+1,be',cp,A2,by have:=HLT.out;omega,by go_num,rfl,?_,HBE2.out,HC2.out⟩,?_⟩
   ·have:=HV2.out
    obtain ⟨hk1,hk2⟩:=Vg HX.out
    rw [List.take_succ_eq_append_getElem hk1,List.map_append,hk2]
    exact this
   ·have:=HLT.out
    simp [intOf]
    omega
  ·have:k=n:=by omega
   subst this
   go_wp2_with fail
   go_ret
   refine ⟨be,A',cap',rfl,?_,HBE.out,HC.out⟩
   have:=HV.out
   rw [List.take_of_length_le (by rw [HN.out];exact Nat.le_refl _)] at this
   exact this
end
section
def noAlu (Q:Co):Prop:=∀u r,Q.pr[Q.pc]? =some (u,r)→decB u=true→(Qz u).op<2∨7<(Qz u).op
theorem xexec {W w:World} {c:Cg} {sy n:Nat} {F:List Nat} {S:Mst} {cur:Nat→List Int} {kb pb qb:Nat} {Q:Co} (h:CS W w c sy F S kb pb qb Q) (hI:Inv c n S cur) (hN:NN cur) (hn:n+1≤1000000000) (hR:Roomy c S) (hR2:∀li wo,Roomy c (loadM c S Q.id li wo).1) (hT:Tab W) (hA:noAlu Q):
 Calls Tryz.prog 78 #[.pointer (some ⟨kb,0,none⟩),.pointer (some ⟨sy,0,none⟩)] w (CSTo W w c sy F kb pb qb (Qb2 c S Q).S (Qb2 c S Q).Q (Qb2 c S Q).ev):=by
 unfold Qb2
 cases hru:Q.ru
 ·exact xexec_off h hru sy
 rw [if_pos rfl]
 cases hx:Q.pr[Q.pc]? with
 |none=>exact xexec_end h hru (by rw [List.getElem?_eq_none_iff] at hx;exact hx) sy
 |some x=>
  obtain ⟨u,r⟩:=x
  dsimp only
  cases hd:decB u
  ·exact xexec_bad h hI hN hn hR hR2 hT hru hx hd
  rw [if_pos rfl]
  have hg:YY (Qz u)=true:=by unfold decB at hd;rw [Bool.and_eq_true] at hd;exact hd.1
  have hr:=(Zw hg).1
  have ha:=hA u r hx hd
  have hop:(Qz u).op=0∨(Qz u).op=1∨(Qz u).op=8∨(Qz u).op=9∨(Qz u).op=10∨(Qz u).op=11∨(Qz u).op=12∨(Qz u).op=13∨(Qz u).op=14∨(Qz u).op=15∨(Qz u).op=16∨(Qz u).op=17∨(Qz u).op=18∨(Qz u).op=19∨(Qz u).op=20∨(Qz u).op=21∨(Qz u).op=22:=by omega
  unfold insC
  rcases hop with hk|hk|hk|hk|hk|hk|hk|hk|hk|hk|hk|hk|hk|hk|hk|hk|hk
  ·rw [if_pos hk]
   exact xexec_0 h hI hN hn hR hR2 hT hru hx hd hk
  ·rw [if_neg (by omega),if_pos hk]
   exact xexec_1 h hI hN hn hR hR2 hT hru hx hd hk
  ·rw [if_neg (by omega),if_neg (by omega),if_neg (by omega),if_neg (by omega),if_neg (by omega),if_neg (by omega),if_neg (by omega)]
   exact xexec_8 h hI hN hn hR hR2 hT hru hx hd hk
  ·rw [if_neg (by omega),if_neg (by omega),if_neg (by omega),if_neg (by omega),if_neg (by omega),if_neg (by omega),if_neg (by omega)]
   exact xexec_9 h hI hN hn hR hR2 hT hru hx hd hk
  ·rw [if_neg (by omega),if_neg (by omega),if_neg (by omega),if_neg (by omega),if_neg (by omega),if_neg (by omega),if_neg (by omega)]
   exact xexec_10 h hI hN hn hR hR2 hT hru hx hd hk
  ·rw [if_neg (by omega),if_neg (by omega),if_neg (by omega),if_neg (by omega),if_neg (by omega),if_neg (by omega),if_neg (by omega)]
   exact xexec_11 h hI hN hn hR hR2 hT hru hx hd hk
  ·rw [if_neg (by omega),if_neg (by omega),if_neg (by omega),if_neg (by omega),if_neg (by omega),if_neg (by omega),if_neg (by omega)]
   exact xexec_12 h hI hN hn hR hR2 hT hru hx hd hk
  ·rw [if_neg (by omega),if_neg (by omega),if_neg (by omega),if_neg (by omega),if_neg (by omega),if_neg (by omega),if_neg (by omega)]
   exact xexec_13 h hI hN hn hR hR2 hT hru hx hd hk
  ·rw [if_neg (by omega),if_neg (by omega),if_neg (by omega),if_neg (by omega),if_neg (by omega),if_neg (by omega),if_neg (by omega)]
   exact xexec_14 h hI hN hn hR hR2 hT hru hx hd hk
  ·rw [if_neg (by omega),if_neg (by omega),if_neg (by omega),if_neg (by omega),if_neg (by omega),if_neg (by omega),if_pos (by omega)]
   have e:=xexec_15 h hI hN hn hR hR2 hT hru hx hd hk
   split
   ·rename_i hs;rw [if_pos hs,if_pos hs] at e;exact e
   ·rename_i hs;rw [if_neg hs,if_neg hs] at e;exact e
  ·rw [if_neg (by omega),if_neg (by omega),if_neg (by omega),if_neg (by omega),if_neg (by omega),if_neg (by omega),if_pos (by omega)]
   have e:=xexec_16 h hI hN hn hR hR2 hT hru hx hd hk
   split
   ·rename_i hs;rw [if_pos hs,if_pos hs] at e;exact e
   ·rename_i hs;rw [if_neg hs,if_neg hs] at e;exact e
  ·rw [if_neg (by omega),if_neg (by omega),if_neg (by omega),if_pos (by omega)]
   exact xexec_17 h hI hN hn hR hR2 hT hru hx hd hk
  ·rw [if_neg (by omega),if_neg (by omega),if_neg (by omega),if_pos (by omega)]
   exact xexec_18 h hI hN hn hR hR2 hT hru hx hd hk
  ·rw [if_neg (by omega),if_neg (by omega),if_neg (by omega),if_pos (by omega)]
   exact xexec_19 h hI hN hn hR hR2 hT hru hx hd hk
  ·rw [if_neg (by omega),if_neg (by omega),if_neg (by omega),if_pos (by omega)]
   exact xexec_20 h hI hN hn hR hR2 hT hru hx hd hk
  ·rw [if_neg (by omega),if_neg (by omega),if_neg (by omega),if_neg (by omega),if_pos hk]
   exact xexec_21 h hI hN hn hR hR2 hT hru hx hd hk
  ·rw [if_neg (by omega),if_neg (by omega),if_neg (by omega),if_neg (by omega),if_neg (by omega),if_pos hk]
   exact xexec_22 h hI hN hn hR hR2 hT hru hx hd hk
theorem EvV.none {w:World} {B kb:Nat} {F:List Nat} {v:Value} (h:EvV w B kb F v []):∃A cap,v=.slice A 0 cap:=by
 obtain ⟨A,cap,be,rfl,_⟩:=h
 exact ⟨A,cap,rfl⟩
end
section
theorem yexec {W w:World} {c:Cg} {sy n:Nat} {F:List Nat} {S:Mst} {cur:Nat→List Int} {kb pb qb:Nat} {Q:Co} (h:CS W w c sy F S kb pb qb Q) (hI:Inv c n S cur) (hN:NN cur) (hn:n+1≤1000000000) (hR:Roomy c S) (hR2:∀li wo,Roomy c (loadM c S Q.id li wo).1) (hT:Tab W):
 Calls Tryz.prog 78 #[.pointer (some ⟨kb,0,none⟩),.pointer (some ⟨sy,0,none⟩)] w (CSTo W w c sy F kb pb qb (Qb2 c S Q).S (Qb2 c S Q).Q (Qb2 c S Q).ev):=by
 by_cases hA:noAlu Q
 ·exact xexec h hI hN hn hR hR2 hT hA
 ·unfold noAlu at hA
  simp only [Classical.not_forall] at hA
  obtain ⟨u,r,hx,hd,hop⟩:=hA
  have h2:2≤(Qz u).op∧(Qz u).op≤7:=by omega
  cases hru:Q.ru
  ·unfold Qb2
   rw [hru]
   exact xexec_off h hru sy
  have e:Qb2 c S Q=⟨S,YM (setR (QO Q u) (Qz u).a (doV (Qz u).op (regA (QO Q u) (Qz u).b) (regA (QO Q u) (Qz u).c))),[]⟩:=by
   unfold Qb2
   rw [hru,if_pos rfl,hx]
   dsimp only
   rw [if_pos hd]
   unfold insC
   rw [if_neg (by omega),if_neg (by omega),if_pos h2.2]
  rw [e]
  rcases (show (Qz u).op=2∨(Qz u).op=3∨(Qz u).op=4∨(Qz u).op=5∨(Qz u).op=6∨(Qz u).op=7 by omega) with hk|hk|hk|hk|hk|hk
  ·exact xexec_2 h hI hN hn hR hR2 hT hru hx hd hk
  ·exact xexec_3 h hI hN hn hR hR2 hT hru hx hd hk
  ·exact xexec_4 h hI hN hn hR hR2 hT hru hx hd hk
  ·exact xexec_5 h hI hN hn hR hR2 hT hru hx hd hk
  ·exact xexec_6 h hI hN hn hR hR2 hT hru hx hd hk
  ·exact xexec_7 h hI hN hn hR hR2 hT hru hx hd hk
end
end Go.Proofs.YtlidfghgjjffaaaGreatDoor
namespace Go.Proofs.YtlidfghgjjffaaaGreatDoor
open Go.RowKit
set_option linter.unusedVariables false
set_option maxHeartbeats 1000000
section
structure Ac where
 kd:Int
 co:Int
 li:Int
deriving DecidableEq
def Ac.enc (a:Ac):List Value:=[.int .i64 a.kd,.int .i64 a.co,.int .i64 a.li]
def acc (a:Ac):Array Value:=(Ac.enc a).toArray
theorem Ac.len (a:Ac):(Ac.enc a).length=3:=rfl
theorem Ac.one (a:Ac):∀v∈Ac.enc a,v.oneCell'=true:=by
 intro v hv
 simp only [Ac.enc,List.mem_cons,Vn,or_false] at hv
 rcases hv with rfl|rfl|rfl<;>rfl
theorem ZC (a:Ac):(acc a).size=3:=by simp [acc,Ac.enc]
theorem Jd (a:Ac):Qab (acc a):=Qp _ (List.all_eq_true.2 (Ac.one a))
theorem Qap (a:Ac):(acc a)[0]? =some (.int .i64 a.kd):=rfl
theorem Qaq (a:Ac):(acc a)[1]? =some (.int .i64 a.co):=rfl
theorem Qao (a:Ac):(acc a)[2]? =some (.int .i64 a.li):=rfl
theorem Je (k c l:Int):(#[.int .i64 k,.int .i64 c,.int .i64 l]:Array Value)=acc ⟨k,c,l⟩:=rfl
theorem Qan (a:Ac):(acc a=#[])=False:=eq_false (fun h=>by have:=congrArg Array.size h;rw [ZC] at this;cases this)
theorem Yl (C:Array Value) (a:Ac) (h:C.size=3):Array.foldl (fun cs y=>cs.setIfInBounds y.snd y.fst) C (acc a).zipIdx 0 3=acc a:=Qeh _ _ _ (ZC a) h
theorem Qad:Wide Tryz.prog 44 3:=⟨⟨_,Tryz.underlying44,by rfl⟩,by kernel_rfl⟩
theorem Qak (x:Value):Instr.loadAt 44 x=Qdf 44 3 x:=rfl
theorem Jp (x y:Value):Instr.storeAt 44 x y=Qar 44 3 x y:=rfl
section
variable (sy cb n:Nat) (RA:Option Addr) (rn rc fa:Nat)
theorem Qag:(mcc sy cb n RA rn rc fa)[0]? =some (.pointer (some ⟨sy,0,none⟩)):=rfl
theorem Qaj:(mcc sy cb n RA rn rc fa)[1]? =some (.slice (some ⟨cb,0,none⟩) n n):=rfl
theorem Qah:(mcc sy cb n RA rn rc fa)[2]? =some (.slice RA rn rc):=rfl
theorem Qai:(mcc sy cb n RA rn rc fa)[3]? =some (.int .i64 (fa:Int)):=rfl
theorem ZK:(mcc sy cb n RA rn rc fa).size=4:=rfl
end
set_option maxRecDepth 100000
attribute [local go_sem ↓] Qv QF Qx QP QG Qs Qk Qh heap_alloc Ql heap_setCell Qc X7 Xl Xd ZF Yj Xs Yi Xr X1 X0 XW XX XY Xe XK XJ XI Xg Yq Yr Yp Ym Yn YC Yy Xv YA YB Yz Yx Qak Jp Qap Qaq Qao Qag Qaj Qah Qai
attribute [local go_sem] Qb Qa Qe Qi Qd Qg Qf QB Qw QN QL QM Q6 QJ QA Qr QD QX QI Qq QC Qp Qj Qo Qn XV Xb Yh Q5 Xm Xn JC XZ ZU ZT ZS ZR X6 X5 X2 X3 X4 QE ZI Xf ZJ XH Q8 Xt Yo Xu JP Z3 Z2 Z1 Z0 ZZ Yv Yw Yu Ys Yt ZY QS QT QR QK Qt Zk Qad ZC Jd Qan Je Yl ZK
attribute [local simp ↓] Qk Qh heap_alloc Ql heap_setCell Qc
attribute [local simp] Qb Qa Qe Qi Qd Qg Qf Qr Qj Qo Qn Q5 QE Q8 QS QT QR QK Qt QD ZC ZK
attribute [local go_sem ↓] Qh
theorem mpushed (li:Int) (w:World):Calls Tryz.prog 85 #[.int .i64 li] w fun e w'=>e=.returned (.slice (some ⟨w.heap.size,0,none⟩) 1 1)∧w'=w.alloc (.cells (evc (evPush li)) 48):=by
 go_enter Tryz.func85,Tryz.ntmps85
 exact Tz34
section
variable {W w:World} {c:Cg} {mp cb sy n:Nat} {F:List Nat} {ks:List Kp} {RA:Option Addr} {rcap:Nat} {M:Mac} {cur:Nat→List Int} (h:MaM W w c mp cb sy F ks RA rcap M)
include h
theorem Qid:Calls Tryz.prog 15 #[.pointer (some ⟨mp,0,none⟩)] w fun e w'=>e=.returned (.pointer (some ⟨sy,0,none⟩))∧w=w':=by
 have ho:=h.own
 have oo:=old ho
 clear h
 go_enter Tryz.func15,Tryz.ntmps15
 exact Tz34
theorem mfails:Calls Tryz.prog 23 #[.pointer (some ⟨mp,0,none⟩)] w fun e w'=>e=.returned (.int .i64 (M.fa:Int))∧w=w':=by
 have ho:=h.own
 have oo:=old ho
 clear h
 go_enter Tryz.func23,Tryz.ntmps23
 exact Tz34
theorem Qfk {k:Int} (hk:inB k c.co=false):Calls Tryz.prog 22 #[.pointer (some ⟨mp,0,none⟩),.int .i64 k] w fun e w'=>e=.returned (.pointer none)∧w'=w:=by
 have ho:=h.own
 have oo:=old ho
 clear h
 have hb:k<0∨((c.co:Nat):Int)≤k:=by
  by_cases h0:0≤k
  ·by_cases h1:k<(c.co:Int)
   ·rw [XL.2 ⟨h0,h1⟩] at hk;cases hk
   ·omega
  ·omega
 by_cases h0:k<0
 ·go_enter Tryz.func22,Tryz.ntmps22
  exact Tz34
 ·have h1:((c.co:Nat):Int)≤k:=by omega
  go_enter Tryz.func22,Tryz.ntmps22
  exact Tz34
theorem Qfl {j:Nat} {p:Kp} (hp:ks[j]? =some p):Calls Tryz.prog 22 #[.pointer (some ⟨mp,0,none⟩),.int .i64 (j:Int)] w fun e w'=>e=.returned (.pointer (some ⟨p.kb,0,none⟩))∧w'=w:=by
 have ho:=h.own
 have oo:=old ho
 have hc:=h.cors
 have oc:=old hc
 have hj:j<c.co:=by rw [←h.kl];exact (Vg hp).1
 have hat:(sq pke ks [])[j]? =some (.pointer (some ⟨p.kb,0,none⟩)):=by
  have:=JU pke_len hp [] 0 (by omega)
  simpa [pke] using this
 have g0:(0:Int)≤(j:Int):=by omega
 have g1:(j:Int)<((c.co:Nat):Int):=by omega
 clear h hp hj
 go_enter Tryz.func22,Tryz.ntmps22
 exact Tz34
end
end
section
set_option maxRecDepth 100000
attribute [local go_sem ↓] Qv QF Qx QP QG Qs Qk Qh heap_alloc Ql heap_setCell Qc X7 Xl Xd ZF Yj Xs Yi Xr X1 X0 XW XX XY Xe XK XJ XI Xg Yq Yr Yp Ym Yn YC Yy Xv YA YB Yz Yx Qak Jp Qap Qaq Qao Qag Qaj Qah Qai
attribute [local go_sem] Qb Qa Qe Qi Qd Qg Qf QB Qw QN QL QM Q6 QJ QA Qr QD QX QI Qq QC Qp Qj Qo Qn XV Xb Yh Q5 Xm Xn JC XZ ZU ZT ZS ZR X6 X5 X2 X3 X4 QE ZI Xf ZJ XH Q8 Xt Yo Xu JP Z3 Z2 Z1 Z0 ZZ Yv Yw Yu Ys Yt ZY QS QT QR QK Qt Zk Qad ZC Jd Qan Je Yl ZK
attribute [local simp ↓] Qk Qh heap_alloc Ql heap_setCell Qc
attribute [local simp] Qb Qa Qe Qi Qd Qg Qf Qr Qj Qo Qn Q5 QE Q8 QS QT QR QK Qt QD ZC ZK
attribute [local go_sem ↓] Qh
theorem DoTo.from {W w w1:World} {c:Cg} {mp:Nat} {RA:Option Addr} {rcap:Nat} {Ft:List Nat} {r:Mac×List Ev} {e:Ending} {w':World} (hc:Chg [] w w1) (h:DoTo W w1 c mp RA rcap Ft r e w'):DoTo W w c mp RA rcap Ft r e w':=by
 obtain ⟨v,Ft',he,⟨A,cap,h1,h2,h3⟩,hm,hch,hF⟩:=h
 have hs:=hc.size
 refine ⟨v,Ft',he,⟨A,cap,h1,h2,fun h0 a ha=>⟨Nat.le_trans hs (h3 h0 a ha).1,(h3 h0 a ha).2⟩⟩,hm,(hc.mono (by simp)).trans hch,fun b hb=>?_⟩
 rcases hF b hb with h4|h4
 ·exact .inl h4
 ·exact .inr (Nat.le_trans hs h4)
theorem core_no {M:Mac} {c:Cg} {k:Int} (hl:M.cs.length=c.co) (hc:Qep M k=none):inB k c.co=false:=by
 unfold Qep at hc
 rw [hl] at hc
 cases hb:inB k c.co
 ·rfl
 ·rw [if_pos hb] at hc
  have:=XL.1 hb
  rw [List.getElem?_eq_getElem (by omega)] at hc
  cases hc
section
variable {W w:World} {c:Cg} {mp cb sy n:Nat} {F:List Nat} {ks:List Kp} {RA:Option Addr} {rcap:Nat} {M:Mac} {cur:Nat→List Int} (h:MaM W w c mp cb sy F ks RA rcap M) (hI:MI c n M cur) (hn:n+1≤1000000000) (hT:Tabs W)
include h hI hn hT
theorem aexec (a:Ac):Calls Tryz.prog 48 #[.pointer (some ⟨mp,0,none⟩),.agg (acc a)] w (DoTo W w c mp RA rcap (mp::cb::(Xz ks++F)) (execA c M a.co)):=by
 have ha1:(w.alloc (.cells (acc a) 44)).heap[w.heap.size]? =some (.cells (acc a) 44 (0,0)):=by simp
 have c1:Chg [] w (w.alloc (.cells (acc a) 44)):=(Chg.refl [] w).alloc _
 have H1:=Vh (h.keep0 c1)
 have hm1:=H1.out.own
 have C1:=Vh c1
 have HI:=Vh hI
 have HT:=Vh hT
 have HN:=Vh hn
 have HCL:=Vh h.cl
 clear h hI hT hn c1
 unfold execA
 cases hc:Qep M a.co with
 |none=>
  have HNO:=Vh (core_no HCL.out hc)
  clear hc
  go_enter Tryz.func48,Tryz.ntmps48
  go_wp2_with fail
  generalize hw1:w.alloc (.cells (acc a) 44)=w1 at *
  generalize hp1:w.heap.size=p1 at *
  clear hw1 hp1
  have om1:=old hm1
  have oa1:=old ha1
  go_still_tail 8,(by kernel_rfl)
  still_call (Qfk (H1.out.keep0 ((Chg.refl [] w1).drew)) HNO.out)
  repeat still_step
  try refine wpStill_nil ?_
  change wpList _ _ _ _ _ w1.drew
  have C2:=Vh (C1.out.trans ((Chg.refl [] w1).drew))
  have H2:=Vh (H1.out.keep0 ((Chg.refl [] w1).drew))
  have ha2:w1.drew.heap[p1]? =some (.cells (acc a) 44 (0,0)):=ha1
  clear ha1 hm1 H1 C1 om1 oa1
  generalize w1.drew=w2 at *
  go_wp2_with fail
  refine (cexec_nil w2 _).mono ?_
  rintro e w3 ⟨rfl,rfl⟩
  go_wp2_with fail
  go_ret
  exact DoTo.from C2.out (H2.out.stayDo (Chg.refl [] _))
 |some Q=>
  obtain ⟨j,hj,hjc,hQ,hid⟩:=HI.out.at hc
  obtain ⟨p,Q',hp,hQ'⟩:=H1.out.kAt hjc
  rw [hQ] at hQ'
  cases hQ'
  clear hc
  have HQ:=Vh hQ
  have HP:=Vh hp
  have HJ:=Vh hj
  clear hQ hp hid hjc hj
  go_enter Tryz.func48,Tryz.ntmps48
  go_wp2_with fail
  generalize hw1:w.alloc (.cells (acc a) 44)=w1 at *
  generalize hp1:w.heap.size=p1 at *
  clear hw1 hp1
  have om1:=old hm1
  have oa1:=old ha1
  go_still_tail 8,(by kernel_rfl)
  rw [HJ.out]
  still_call (Qfl (H1.out.keep0 ((Chg.refl [] w1).drew)) HP.out)
  repeat still_step
  try refine wpStill_nil ?_
  change wpList _ _ _ _ _ w1.drew
  have C2:=Vh (C1.out.trans ((Chg.refl [] w1).drew))
  have H2:=Vh (H1.out.keep0 ((Chg.refl [] w1).drew))
  have ha2:w1.drew.heap[p1]? =some (.cells (acc a) 44 (0,0)):=ha1
  clear ha1 hm1 H1 C1 om1 oa1
  generalize w1.drew=w2 at *
  go_wp2_with fail
  have hp:=HP.out
  have hQ:=HQ.out
  refine (yexec (H2.out.cs hp hQ) HI.out.inv HI.out.nn HN.out HI.out.roomy (HI.out.roomyLoad _) HT.out.1).mono ?_
  rintro e w3 hd
  have HD:=Vh (H2.out.told hp hQ hd)
  obtain ⟨v,F',rfl,_⟩:=hd
  go_wp2_with fail
  go_ret
  rw [HJ.out]
  exact DoTo.from C2.out HD.out
theorem adrain (a:Ac):Calls Tryz.prog 49 #[.pointer (some ⟨mp,0,none⟩),.agg (acc a)] w (DoTo W w c mp RA rcap (mp::cb::(Xz ks++F)) (Qfw c M a.co)):=by
 have ha1:(w.alloc (.cells (acc a) 44)).heap[w.heap.size]? =some (.cells (acc a) 44 (0,0)):=by simp
 have c1:Chg [] w (w.alloc (.cells (acc a) 44)):=(Chg.refl [] w).alloc _
 have H1:=Vh (h.keep0 c1)
 have hm1:=H1.out.own
 have C1:=Vh c1
 have HI:=Vh hI
 have HT:=Vh hT
 have HN:=Vh hn
 have HCL:=Vh h.cl
 clear h hI hT hn c1
 unfold Qfw
 cases hc:Qep M a.co with
 |none=>
  have HNO:=Vh (core_no HCL.out hc)
  clear hc
  go_enter Tryz.func49,Tryz.ntmps49
  go_wp2_with fail
  generalize hw1:w.alloc (.cells (acc a) 44)=w1 at *
  generalize hp1:w.heap.size=p1 at *
  clear hw1 hp1
  have om1:=old hm1
  have oa1:=old ha1
  go_still_tail 8,(by kernel_rfl)
  still_call (Qfk (H1.out.keep0 ((Chg.refl [] w1).drew)) HNO.out)
  repeat still_step
  try refine wpStill_nil ?_
  change wpList _ _ _ _ _ w1.drew
  have C2:=Vh (C1.out.trans ((Chg.refl [] w1).drew))
  have H2:=Vh (H1.out.keep0 ((Chg.refl [] w1).drew))
  have ha2:w1.drew.heap[p1]? =some (.cells (acc a) 44 (0,0)):=ha1
  clear ha1 hm1 H1 C1 om1 oa1
  generalize w1.drew=w2 at *
  go_wp2_with fail
  refine (cdrain_nil w2 _).mono ?_
  rintro e w3 ⟨rfl,rfl⟩
  go_wp2_with fail
  go_ret
  exact DoTo.from C2.out (H2.out.stayDo (Chg.refl [] _))
 |some Q=>
  obtain ⟨j,hj,hjc,hQ,hid⟩:=HI.out.at hc
  obtain ⟨p,Q',hp,hQ'⟩:=H1.out.kAt hjc
  rw [hQ] at hQ'
  cases hQ'
  clear hc
  have HQ:=Vh hQ
  have HP:=Vh hp
  have HJ:=Vh hj
  clear hQ hp hid hjc hj
  go_enter Tryz.func49,Tryz.ntmps49
  go_wp2_with fail
  generalize hw1:w.alloc (.cells (acc a) 44)=w1 at *
  generalize hp1:w.heap.size=p1 at *
  clear hw1 hp1
  have om1:=old hm1
  have oa1:=old ha1
  go_still_tail 8,(by kernel_rfl)
  rw [HJ.out]
  still_call (Qfl (H1.out.keep0 ((Chg.refl [] w1).drew)) HP.out)
  repeat still_step
  try refine wpStill_nil ?_
  change wpList _ _ _ _ _ w1.drew
  have C2:=Vh (C1.out.trans ((Chg.refl [] w1).drew))
  have H2:=Vh (H1.out.keep0 ((Chg.refl [] w1).drew))
  have ha2:w1.drew.heap[p1]? =some (.cells (acc a) 44 (0,0)):=ha1
  clear ha1 hm1 H1 C1 om1 oa1
  generalize w1.drew=w2 at *
  go_wp2_with fail
  have hp:=HP.out
  have hQ:=HQ.out
  refine (edrain (H2.out.cs hp hQ) HI.out.inv Cz10 HI.out.roomy HT.out.1).mono ?_
  rintro e w3 hd
  have HD:=Vh (H2.out.told hp hQ hd)
  obtain ⟨v,F',rfl,_⟩:=hd
  go_wp2_with fail
  go_ret
  rw [HJ.out]
  exact DoTo.from C2.out HD.out
theorem aup (a:Ac):Calls Tryz.prog 50 #[.pointer (some ⟨mp,0,none⟩),.agg (acc a)] w (DoTo W w c mp RA rcap (mp::cb::(Xz ks++F)) (M.sys (upM c M.S a.co).1,[])):=by
 have ha1:(w.alloc (.cells (acc a) 44)).heap[w.heap.size]? =some (.cells (acc a) 44 (0,0)):=by simp
 have c1:Chg [] w (w.alloc (.cells (acc a) 44)):=(Chg.refl [] w).alloc _
 have H1:=Vh (h.keep0 c1)
 have hm1:=H1.out.own
 have C1:=Vh c1
 have HI:=Vh hI
 have HT:=Vh hT
 have HN:=Vh hn
 have HCL:=Vh h.cl
 clear h hI hT hn c1
 go_enter Tryz.func50,Tryz.ntmps50
 go_wp2_with fail
 generalize hw1:w.alloc (.cells (acc a) 44)=w1 at *
 generalize hp1:w.heap.size=p1 at *
 clear hw1 hp1
 have om1:=old hm1
 have oa1:=old ha1
 go_still_tail 6,(by kernel_rfl)
 try refine wpStill_nil ?_
 change wpList _ _ _ _ _ w1.drew
 have C2:=Vh (C1.out.trans ((Chg.refl [] w1).drew))
 have H2:=Vh (H1.out.keep0 ((Chg.refl [] w1).drew))
 have ha2:w1.drew.heap[p1]? =some (.cells (acc a) 44 (0,0)):=ha1
 clear ha1 hm1 H1 C1 om1 oa1
 generalize w1.drew=w2 at *
 go_wp2_with fail
 refine (uup H2.out.sys HI.out.inv Cz10 HI.out.roomy HT.out.1 a.co).mono ?_
 rintro e w3 ⟨rfl,hd⟩
 have HD:=Vh (H2.out.sysDo hd)
 clear hd
 go_wp2_with fail
 go_ret
 exact DoTo.from C2.out HD.out
theorem aanswer (a:Ac):Calls Tryz.prog 51 #[.pointer (some ⟨mp,0,none⟩),.agg (acc a)] w (DoTo W w c mp RA rcap (mp::cb::(Xz ks++F)) (M.sys (answerM c M.S a.co).1,[])):=by
 have ha1:(w.alloc (.cells (acc a) 44)).heap[w.heap.size]? =some (.cells (acc a) 44 (0,0)):=by simp
 have c1:Chg [] w (w.alloc (.cells (acc a) 44)):=(Chg.refl [] w).alloc _
 have H1:=Vh (h.keep0 c1)
 have hm1:=H1.out.own
 have C1:=Vh c1
 have HI:=Vh hI
 have HT:=Vh hT
 have HN:=Vh hn
 have HCL:=Vh h.cl
 clear h hI hT hn c1
 go_enter Tryz.func51,Tryz.ntmps51
 go_wp2_with fail
 generalize hw1:w.alloc (.cells (acc a) 44)=w1 at *
 generalize hp1:w.heap.size=p1 at *
 clear hw1 hp1
 have om1:=old hm1
 have oa1:=old ha1
 go_still_tail 6,(by kernel_rfl)
 try refine wpStill_nil ?_
 change wpList _ _ _ _ _ w1.drew
 have C2:=Vh (C1.out.trans ((Chg.refl [] w1).drew))
 have H2:=Vh (H1.out.keep0 ((Chg.refl [] w1).drew))
 have ha2:w1.drew.heap[p1]? =some (.cells (acc a) 44 (0,0)):=ha1
 clear ha1 hm1 H1 C1 om1 oa1
 generalize w1.drew=w2 at *
 go_wp2_with fail
 refine (uanswer H2.out.sys HI.out.inv Cz10 HI.out.roomy HT.out.1 a.co).mono ?_
 rintro e w3 ⟨rfl,hd⟩
 have HD:=Vh (H2.out.sysDo hd)
 clear hd
 go_wp2_with fail
 go_ret
 exact DoTo.from C2.out HD.out
theorem aevict (a:Ac):Calls Tryz.prog 54 #[.pointer (some ⟨mp,0,none⟩),.agg (acc a)] w (DoTo W w c mp RA rcap (mp::cb::(Xz ks++F)) (M.sys (evictM c M.S a.co a.li).1,[])):=by
 have ha1:(w.alloc (.cells (acc a) 44)).heap[w.heap.size]? =some (.cells (acc a) 44 (0,0)):=by simp
 have c1:Chg [] w (w.alloc (.cells (acc a) 44)):=(Chg.refl [] w).alloc _
 have H1:=Vh (h.keep0 c1)
 have hm1:=H1.out.own
 have C1:=Vh c1
 have HI:=Vh hI
 have HT:=Vh hT
 have HN:=Vh hn
 have HCL:=Vh h.cl
 clear h hI hT hn c1
 go_enter Tryz.func54,Tryz.ntmps54
 go_wp2_with fail
 generalize hw1:w.alloc (.cells (acc a) 44)=w1 at *
 generalize hp1:w.heap.size=p1 at *
 clear hw1 hp1
 have om1:=old hm1
 have oa1:=old ha1
 go_still_tail 8,(by kernel_rfl)
 try refine wpStill_nil ?_
 change wpList _ _ _ _ _ w1.drew
 have C2:=Vh (C1.out.trans ((Chg.refl [] w1).drew))
 have H2:=Vh (H1.out.keep0 ((Chg.refl [] w1).drew))
 have ha2:w1.drew.heap[p1]? =some (.cells (acc a) 44 (0,0)):=ha1
 clear ha1 hm1 H1 C1 om1 oa1
 generalize w1.drew=w2 at *
 go_wp2_with fail
 refine (uevict H2.out.sys HI.out.inv Cz10 HI.out.roomy HT.out.1 a.co a.li).mono ?_
 rintro e w3 ⟨rfl,hd⟩
 have HD:=Vh (H2.out.sysDo hd)
 clear hd
 go_wp2_with fail
 go_ret
 exact DoTo.from C2.out HD.out
theorem awrite (a:Ac):Calls Tryz.prog 56 #[.pointer (some ⟨mp,0,none⟩),.agg (acc a)] w (DoTo W w c mp RA rcap (mp::cb::(Xz ks++F)) (M.sys (drainM c M.S a.li).1,[])):=by
 have ha1:(w.alloc (.cells (acc a) 44)).heap[w.heap.size]? =some (.cells (acc a) 44 (0,0)):=by simp
 have c1:Chg [] w (w.alloc (.cells (acc a) 44)):=(Chg.refl [] w).alloc _
 have H1:=Vh (h.keep0 c1)
 have hm1:=H1.out.own
 have C1:=Vh c1
 have HI:=Vh hI
 have HT:=Vh hT
 have HN:=Vh hn
 have HCL:=Vh h.cl
 clear h hI hT hn c1
 go_enter Tryz.func56,Tryz.ntmps56
 go_wp2_with fail
 generalize hw1:w.alloc (.cells (acc a) 44)=w1 at *
 generalize hp1:w.heap.size=p1 at *
 clear hw1 hp1
 have om1:=old hm1
 have oa1:=old ha1
 go_still_tail 6,(by kernel_rfl)
 try refine wpStill_nil ?_
 change wpList _ _ _ _ _ w1.drew
 have C2:=Vh (C1.out.trans ((Chg.refl [] w1).drew))
 have H2:=Vh (H1.out.keep0 ((Chg.refl [] w1).drew))
 have ha2:w1.drew.heap[p1]? =some (.cells (acc a) 44 (0,0)):=ha1
 clear ha1 hm1 H1 C1 om1 oa1
 generalize w1.drew=w2 at *
 go_wp2_with fail
 refine (udrain H2.out.sys HI.out.inv Cz10 HI.out.roomy HT.out.1 a.li).mono ?_
 rintro e w3 ⟨rfl,hd⟩
 have HD:=Vh (H2.out.sysDo hd)
 clear hd
 go_wp2_with fail
 go_ret
 exact DoTo.from C2.out HD.out
end
end
section
set_option maxRecDepth 100000
attribute [local go_sem ↓] Qv QF Qx QP QG Qs Qk Qh heap_alloc Ql heap_setCell Qc X7 Xl Xd ZF Yj Xs Yi Xr X1 X0 XW XX XY Xe XK XJ XI Xg Yq Yr Yp Ym Yn YC Yy Xv YA YB Yz Yx Qak Jp Qap Qaq Qao Qag Qaj Qah Qai
attribute [local go_sem] Qb Qa Qe Qi Qd Qg Qf QB Qw QN QL QM Q6 QJ QA Qr QD QX QI Qq QC Qp Qj Qo Qn XV Xb Yh Q5 Xm Xn JC XZ ZU ZT ZS ZR X6 X5 X2 X3 X4 QE ZI Xf ZJ XH Q8 Xt Yo Xu JP Z3 Z2 Z1 Z0 ZZ Yv Yw Yu Ys Yt ZY QS QT QR QK Qt Zk Qad ZC Jd Qan Je Yl ZK
attribute [local simp ↓] Qk Qh heap_alloc Ql heap_setCell Qc
attribute [local simp] Qb Qa Qe Qi Qd Qg Qf Qr Qj Qo Qn Q5 QE Q8 QS QT QR QK Qt QD ZC ZK
attribute [local go_sem ↓] Qh
attribute [local go_sem ↓] ZP Zu YL
attribute [local go_sem] ZM QH ZO
attribute [local simp] YL QH
def entA (c:Cg) (S:Mst) (li:Int):En:=if inB li c.li=true then (S.en[li.toNat]?).getD enE else enE
theorem newer_ent (c:Cg) (S:Mst) (li:Int):newerB c S li=(entA c S li).di:=by
 unfold newerB entA
 split
 ·cases S.en[li.toNat]? with
  |none=>rfl
  |some e=>rfl
 ·rfl
theorem ec_field (e:En) (w:World):(Instr.field 107 (.agg (ec e)) 1).run Tryz.prog w=.ok (.bool e.di) w:=by
 obtain ⟨he,di,l,ow,sh,bu,by_,wa,hl⟩:=e
 match l,hl with
 |[a0,a1,a2,a3,a4,a5,a6,a7],_=>
  show (Instr.field 107 (.agg #[.bool he,.bool di,.int .u64 a0,.int .u64 a1,.int .u64 a2,.int .u64 a3,.int .u64 a4,.int .u64 a5,.int .u64 a6,.int .u64 a7,.int .i64 ow,.int .u8 (mi sh),.int .i64 bu,.int .i64 by_,.int .u8 (mi wa)]) 1).run Tryz.prog w=.ok (.bool di) w
  kernel_rfl
theorem mentry {W w:World} {c:Cg} {sy:Nat} {F:List Nat} {S:Mst} (hm:MS W w c sy F S) (li:Int):Calls Tryz.prog 38 #[.pointer (some ⟨sy,0,none⟩),.int .i64 li] w fun r w'=>r=.returned (.agg (ec (entA c S li)))∧Chg [] w w':=by
 obtain ⟨z,L,rfl,_,_,h⟩:=hm
 unfold entA
 split
 ·rename_i hb
  have hb2:=XL.1 hb
  obtain ⟨i,rfl⟩:∃i:Nat,li=(i:Int):=⟨li.toNat,by omega⟩
  have hi:i<S.en.length:=by rw [h.lines];omega
  rw [Int.toNat_natCast,List.getElem?_eq_getElem hi]
  exact zentry_ok i _ w h (List.getElem?_eq_getElem hi)
 ·rename_i hb
  exact zentry_off li w h (by simpa using hb)
theorem MaM.tellOne {W w w3:World} {c:Cg} {mp cb sy:Nat} {F3 Ft:List Nat} {ks:List Kp} {RA:Option Addr} {rcap:Nat} {M':Mac} (h3:MaM W w3 c mp cb sy F3 ks RA rcap M') (hc:Chg Ft w w3) (hF:∀b∈mp::cb::(Xz ks++F3),b∈Ft∨w.heap.size≤b) (e:Ev):
 DoTo W w c mp RA rcap Ft (M',[e]) (.returned (.slice (some ⟨w3.heap.size,0,none⟩) 1 1)) (w3.alloc (.cells (evc e) 48)):=by
 have c4:Chg [] w3 (w3.alloc (.cells (evc e) 48)):=(Chg.refl [] w3).alloc _
 have hb:(w3.alloc (.cells (evc e) 48)).heap[w3.heap.size]? =some (.cells (evc e) 48 (0,0)):=by simp
 have hs:=hc.size
 refine ⟨_,_,rfl,⟨some ⟨w3.heap.size,0,none⟩,1,rfl,⟨rfl,.inr ⟨w3.heap.size,0,_,_,(0,0),rfl,hb,by rw [Qdb];rfl⟩⟩,fun _ a ha=>?_⟩,(h3.keep0 c4).mas,hc.trans (c4.mono (by simp)),hF⟩
 cases ha
 exact ⟨hs,fun hm=>Nat.lt_irrefl _ (h3.oldAll _ hm)⟩
theorem DoTo.after {W w w1:World} {c:Cg} {mp:Nat} {RA:Option Addr} {rcap:Nat} {Ft Ft1:List Nat} {r:Mac×List Ev} {e:Ending} {w':World} (hc:Chg Ft w w1) (hs:∀b∈Ft1,b∈Ft∨w.heap.size≤b) (h:DoTo W w1 c mp RA rcap Ft1 r e w'):DoTo W w c mp RA rcap Ft r e w':=by
 obtain ⟨v,Ft',he,⟨A,cap,h1,h2,h3⟩,hm,hch,hF⟩:=h
 have hz:=hc.size
 refine ⟨v,Ft',he,⟨A,cap,h1,h2,fun h0 a ha=>⟨Nat.le_trans hz (h3 h0 a ha).1,(h3 h0 a ha).2⟩⟩,hm,hc.trans' hch hs,fun b hb=>?_⟩
 rcases hF b hb with h4|h4
 ·exact hs b h4
 ·exact .inr (Nat.le_trans hz h4)
section
variable {W w:World} {c:Cg} {mp cb sy n:Nat} {F:List Nat} {ks:List Kp} {RA:Option Addr} {rcap:Nat} {M:Mac} {cur:Nat→List Int} (h:MaM W w c mp cb sy F ks RA rcap M) (hI:MI c n M cur) (hn:n+1≤1000000000) (hT:Tabs W)
include h hI hn hT
theorem apush (a:Ac):Calls Tryz.prog 53 #[.pointer (some ⟨mp,0,none⟩),.agg (acc a)] w (DoTo W w c mp RA rcap (mp::cb::(Xz ks++F)) (pushA c M a.li)):=by
 have ha1:(w.alloc (.cells (acc a) 44)).heap[w.heap.size]? =some (.cells (acc a) 44 (0,0)):=by simp
 have c1:Chg [] w (w.alloc (.cells (acc a) 44)):=(Chg.refl [] w).alloc _
 have H1:=Vh (h.keep0 c1)
 have hm1:=H1.out.own
 have C1:=Vh c1
 have HI:=Vh hI
 have HT:=Vh hT
 have HN:=Vh hn
 have HCL:=Vh h.cl
 have HPF:=Vh (show ∀b∈mp::cb::(Xz ks++F),b≠w.heap.size from fun b hb e=>by have:=h.oldAll b hb;omega)
 clear h hI hT hn c1
 unfold pushA
 by_cases he:(pushM c M.S a.li).2.e=0
 ·have te:((pushM c M.S a.li).2.e !=0)=false:=by simp [he]
  rw [if_pos he]
  clear he
  go_enter Tryz.func53,Tryz.ntmps53
  go_wp2_with fail
  generalize hw1:w.alloc (.cells (acc a) 44)=w1 at *
  generalize hp1:w.heap.size=p1 at *
  clear hw1 hp1
  have om1:=old hm1
  have oa1:=old ha1
  go_still_tail 6,(by kernel_rfl)
  try refine wpStill_nil ?_
  change wpList _ _ _ _ _ w1.drew
  have C2:=Vh (C1.out.trans ((Chg.refl [] w1).drew))
  have H2:=Vh (H1.out.keep0 ((Chg.refl [] w1).drew))
  have ha2:w1.drew.heap[p1]? =some (.cells (acc a) 44 (0,0)):=ha1
  clear ha1 hm1 H1 C1 om1 oa1
  generalize w1.drew=w2 at *
  go_wp2_with fail
  refine (upush H2.out.sys HI.out.inv Cz10 HI.out.roomy HT.out.1 a.li).mono ?_
  rintro e w3 ⟨rfl,hd⟩
  obtain ⟨F3,h3,c3,hF3⟩:=H2.out.sysTo hd
  have H3:=Vh h3
  have C3:=Vh c3
  have HF3:=Vh hF3
  have ha3:=c3.keep ha2 (fun hm=>HPF.out _ hm rfl)
  have oa3:=old ha3
  clear hd h3 c3 hF3 ha2
  go_wp2_with (go_at_call 85;refine (mpushed a.li _).mono ?_;rintro e w4 ⟨rfl,rfl⟩)
  go_ret
  exact DoTo.from C2.out (H3.out.tellOne C3.out HF3.out _)
 ·have te:((pushM c M.S a.li).2.e !=0)=true:=by simpa using he
  rw [if_neg he]
  clear he
  go_enter Tryz.func53,Tryz.ntmps53
  go_wp2_with fail
  generalize hw1:w.alloc (.cells (acc a) 44)=w1 at *
  generalize hp1:w.heap.size=p1 at *
  clear hw1 hp1
  have om1:=old hm1
  have oa1:=old ha1
  go_still_tail 6,(by kernel_rfl)
  try refine wpStill_nil ?_
  change wpList _ _ _ _ _ w1.drew
  have C2:=Vh (C1.out.trans ((Chg.refl [] w1).drew))
  have H2:=Vh (H1.out.keep0 ((Chg.refl [] w1).drew))
  have ha2:w1.drew.heap[p1]? =some (.cells (acc a) 44 (0,0)):=ha1
  clear ha1 hm1 H1 C1 om1 oa1
  generalize w1.drew=w2 at *
  go_wp2_with fail
  refine (upush H2.out.sys HI.out.inv Cz10 HI.out.roomy HT.out.1 a.li).mono ?_
  rintro e w3 ⟨rfl,hd⟩
  have HD:=Vh (H2.out.sysDo hd)
  clear hd
  go_wp2_with fail
  go_ret
  exact DoTo.from C2.out HD.out
theorem adrop (a:Ac):Calls Tryz.prog 55 #[.pointer (some ⟨mp,0,none⟩),.agg (acc a)] w (DoTo W w c mp RA rcap (mp::cb::(Xz ks++F)) (dropMA c M a.li)):=by
 have ha1:(w.alloc (.cells (acc a) 44)).heap[w.heap.size]? =some (.cells (acc a) 44 (0,0)):=by simp
 have c1:Chg [] w (w.alloc (.cells (acc a) 44)):=(Chg.refl [] w).alloc _
 have H1:=Vh (h.keep0 c1)
 have hm1:=H1.out.own
 have C1:=Vh c1
 have HI:=Vh hI
 have HT:=Vh hT
 have HN:=Vh hn
 have HCL:=Vh h.cl
 have HPF:=Vh (show ∀b∈mp::cb::(Xz ks++F),b≠w.heap.size from fun b hb e=>by have:=h.oldAll b hb;omega)
 clear h hI hT hn c1
 unfold dropMA
 by_cases he:(dropM c M.S a.li).2.e=0
 ·have te:((dropM c M.S a.li).2.e !=0)=false:=by simp [he]
  cases hnw:newerB c M.S a.li
  ·rw [if_neg (fun e=>by cases e.2)]
   rw [newer_ent] at hnw
   clear he
   exact Tz13
  ·rw [if_pos ⟨he,rfl⟩]
   rw [newer_ent] at hnw
   clear he
   go_enter Tryz.func55,Tryz.ntmps55
   go_wp2_with fail
   generalize hw1:w.alloc (.cells (acc a) 44)=w1 at *
   generalize hp1:w.heap.size=p1 at *
   clear hw1 hp1
   have om1:=old hm1
   have oa1:=old ha1
   go_still_tail 6,(by kernel_rfl)
   try refine wpStill_nil ?_
   change wpList _ _ _ _ _ w1.drew
   have C2:=Vh (C1.out.trans ((Chg.refl [] w1).drew))
   have H2:=Vh (H1.out.keep0 ((Chg.refl [] w1).drew))
   have ha2:w1.drew.heap[p1]? =some (.cells (acc a) 44 (0,0)):=ha1
   clear ha1 hm1 H1 C1 om1 oa1
   generalize w1.drew=w2 at *
   go_wp2_with (go_at_call 38;refine (mentry H2.out.sys a.li).mono ?_;rintro e w3 ⟨rfl,k3⟩;have H3:=Vh (H2.out.keep0 k3);have C3:=Vh (C2.out.trans k3);have ha3:=k3.keep ha2 Vn;have hm3:=H3.out.own;have hf3:=ec_field (entA c M.S a.li) w3;have om3:=old hm3;have oa3:=old ha3;clear k3 H2 C2 ha2)
   go_still_tail 6,(by kernel_rfl)
   try refine wpStill_nil ?_
   change wpList _ _ _ _ _ w3.drew
   have C4:=Vh (C3.out.trans ((Chg.refl [] w3).drew))
   have H4:=Vh (H3.out.keep0 ((Chg.refl [] w3).drew))
   have ha4:w3.drew.heap[p1]? =some (.cells (acc a) 44 (0,0)):=ha3
   clear ha3 hm3 H3 C3 om3 oa3 hf3
   generalize w3.drew=w4 at *
   go_wp2_with fail
   refine (udrop H4.out.sys HI.out.inv Cz10 HI.out.roomy HT.out.1 a.li).mono ?_
   rintro e w5 ⟨rfl,hd⟩
   obtain ⟨F3,h3,c3,hF3⟩:=H4.out.sysTo hd
   have H3:=Vh h3
   have C3:=Vh c3
   have HF3:=Vh hF3
   have ha5:=c3.keep ha4 (fun hm=>HPF.out _ hm rfl)
   have oa5:=old ha5
   clear hd h3 c3 hF3 ha4
   go_wp2_with (go_at_call 85;refine (mpushed a.li _).mono ?_;rintro e w6 ⟨rfl,rfl⟩)
   go_ret
   exact DoTo.from C4.out (H3.out.tellOne C3.out HF3.out _)
 ·have te:((dropM c M.S a.li).2.e !=0)=true:=by simpa using he
  rw [if_neg (fun e=>he e.1)]
  clear he
  have hnw:(entA c M.S a.li).di=(entA c M.S a.li).di:=rfl
  exact Tz13
theorem ahear (a:Ac):Calls Tryz.prog 52 #[.pointer (some ⟨mp,0,none⟩),.agg (acc a)] w (DoTo W w c mp RA rcap (mp::cb::(Xz ks++F)) (hearA c M a.co)):=by
 have ha1:(w.alloc (.cells (acc a) 44)).heap[w.heap.size]? =some (.cells (acc a) 44 (0,0)):=by simp
 have c1:Chg [] w (w.alloc (.cells (acc a) 44)):=(Chg.refl [] w).alloc _
 have H1:=Vh (h.keep0 c1)
 have hm1:=H1.out.own
 have C1:=Vh c1
 have HI:=Vh hI
 have HT:=Vh hT
 have HN:=Vh hn
 have HCL:=Vh h.cl
 have HPF:=Vh (show ∀b∈mp::cb::(Xz ks++F),b≠w.heap.size from fun b hb e=>by have:=h.oldAll b hb;omega)
 clear h hI hT hn c1
 have HDM:=Vh (show mp∉F from H1.out.dm)
 have HPF1:=Vh (show w.heap.size∉F from fun hm=>HPF.out _ (by simp [hm]) rfl)
 have HOF:=Vh (show ∀b∈F,b<w.heap.size from fun b hb=>by have:=HPF.out b (by simp [hb]);have:=H1.out.oldF b hb;simp at this;omega)
 unfold hearA
 by_cases he:(hearM c M.S a.co).2.e=0
 ·have te:((hearM c M.S a.co).2.e !=0)=false:=by simp [he]
  rw [if_pos he]
  clear he
  cases hc:Qep M a.co with
  |none=>
   have HNO:=Vh (core_no HCL.out hc)
   clear hc
   have HU:=Vh (fun (w':World) (hc:Chg [] (w.alloc (.cells (acc a) 44)) w')=>(uhear (H1.out.keep0 hc).sys HI.out.inv Cz10 HI.out.roomy HT.out a.co).mono fun e w3 hd=>(⟨hd.1,(show ∃F4,Chg F w' w3∧F4=F from hd.2.elim fun F4 h4=>⟨F,h4.2.1,rfl⟩).elim fun _ h=>h.1,(H1.out.keep0 hc).sysTo hd.2⟩:e=.returned (.tuple #[.agg (msc (hearM c M.S a.co).2.m),.int .i64 (hearM c M.S a.co).2.e])∧Chg F w' w3∧∃F',MaM W w3 c mp cb sy F' ks RA rcap (M.sys (hearM c M.S a.co).1)∧Chg (mp::cb::(Xz ks++F)) w' w3∧∀b∈mp::cb::(Xz ks++F'),b∈mp::cb::(Xz ks++F)∨w'.heap.size≤b))
   generalize hR:hearM c M.S a.co=R at *
   clear hR
   go_enter Tryz.func52,Tryz.ntmps52
   go_upto_region 1 with fail
   generalize hw1:w.alloc (.cells (acc a) 44)=w1 at *
   generalize hp1:w.heap.size=p1 at *
   clear hw1 hp1
   have om1:=old hm1
   have oa1:=old ha1
   have HA:=Vh ((HU.out (w1.alloc (.cells (msc msZ) 184)).drew Cz6).mono fun e w3 hd=>(⟨hd,by
    have k3:=hd.2.1
    exact k3.keep (x:=.cells (msc msZ) 184 (0,0)) (MapKept.heap_alloc w1 _).1 (fun hm=>by have:=HOF.out _ hm;have:=oa1.lt;omega)⟩:_∧w3.heap[w1.heap.size]? =some (.cells (msc msZ) 184 (0,0))))
   go_region_held3 (fun w'=>w'.heap[mp]? =some (.cells (mcc sy cb c.co RA M.rc.length rcap M.fa) 78 (0,0))∧w'.heap[p1]? =some (.cells (acc a) 44 (0,0)))
    (exact ⟨Chg.keep (l:=F) (w:=w1) Cz2 hm1 HDM.out,Chg.keep (l:=F) (w:=w1) Cz2 ha1 HPF1.out⟩)
    (first |(go_at_call 82;with_reducible refine HA.out.mono ?_;rintro e w3 ⟨⟨rfl,k3,F3,h3,c3,hF3⟩,z3⟩;have T3:Chg F w1 w3:=Chg.trans Cz2 k3)|(go_at_call 82;with_reducible refine (HU.out w1.drew Cz6).mono ?_;rintro e w3 ⟨rfl,k3,F3,h3,c3,hF3⟩;have T3:Chg F w1 w3:=Chg.trans Cz2 k3))
   ·have h5:∃F5,MaM W (w3.alloc (.cells (msc R.2.m) 184)) c mp cb sy F5 ks RA rcap (M.sys R.1)∧Chg (mp::cb::(Xz ks++F)) w (w3.alloc (.cells (msc R.2.m) 184))∧(∀b∈mp::cb::(Xz ks++F5),b∈mp::cb::(Xz ks++F)∨w.heap.size≤b)∧(w3.alloc (.cells (msc R.2.m) 184)).heap[w3.heap.size]? =some (.cells (msc R.2.m) 184 (0,0))∧(w3.alloc (.cells (msc R.2.m) 184)).heap[p1]? =some (.cells (acc a) 44 (0,0)):=by
     exact Tz25
    generalize hw5:w3.alloc (.cells (msc R.2.m) 184)=w5 at *
    generalize hq5:w3.heap.size=q5 at *
    obtain ⟨F5,h5,c5,s5,hq,ha5⟩:=h5
    have H5:=Vh h5
    have C5:=Vh c5
    have S5:=Vh s5
    have oq5:=old hq
    have oa5:=old ha5
    have hm5:=h5.own
    have om5:=old hm5
    clear hw5 hq5 h5 c5 s5 h3 c3 hF3 T3 k3 HU HA H1 C1 hm1 ha1 om1 oa1
    exact Tz37
   ·have h5:∃F5,MaM W (putRow w3 w1.heap.size 0 (msc R.2.m)) c mp cb sy F5 ks RA rcap (M.sys R.1)∧Chg (mp::cb::(Xz ks++F)) w (putRow w3 w1.heap.size 0 (msc R.2.m))∧(∀b∈mp::cb::(Xz ks++F5),b∈mp::cb::(Xz ks++F)∨w.heap.size≤b)∧(putRow w3 w1.heap.size 0 (msc R.2.m)).heap[w1.heap.size]? =some (.cells (msc R.2.m) 184 (0,0))∧(putRow w3 w1.heap.size 0 (msc R.2.m)).heap[p1]? =some (.cells (acc a) 44 (0,0)):=by
     exact Tz7
    generalize hw5:putRow w3 w1.heap.size 0 (msc R.2.m)=w5 at *
    generalize hq5:w1.heap.size=q5 at *
    obtain ⟨F5,h5,c5,s5,hq,ha5⟩:=h5
    have H5:=Vh h5
    have C5:=Vh c5
    have S5:=Vh s5
    have oq5:=old hq
    have oa5:=old ha5
    have hm5:=h5.own
    have om5:=old hm5
    clear hw5 hq5 h5 c5 s5 h3 c3 hF3 T3 k3 HU HA H1 C1 hm1 ha1 om1 oa1 z3
    exact Tz37
  |some Q=>
   obtain ⟨j,hj,hjc,hQ,hid⟩:=HI.out.at hc
   obtain ⟨p,Q',hp,hQ'⟩:=H1.out.kAt hjc
   rw [hQ] at hQ'
   cases hQ'
   clear hc
   have HQ:=Vh hQ
   have HP:=Vh hp
   have HJ:=Vh hj
   clear hQ hp hid hjc hj
   have HU:=Vh (fun (w':World) (hc:Chg [] (w.alloc (.cells (acc a) 44)) w')=>(uhear (H1.out.keep0 hc).sys HI.out.inv Cz10 HI.out.roomy HT.out a.co).mono fun e w3 hd=>(⟨hd.1,(show ∃F4,Chg F w' w3∧F4=F from hd.2.elim fun F4 h4=>⟨F,h4.2.1,rfl⟩).elim fun _ h=>h.1,(H1.out.keep0 hc).sysTo hd.2⟩:e=.returned (.tuple #[.agg (msc (hearM c M.S a.co).2.m),.int .i64 (hearM c M.S a.co).2.e])∧Chg F w' w3∧∃F',MaM W w3 c mp cb sy F' ks RA rcap (M.sys (hearM c M.S a.co).1)∧Chg (mp::cb::(Xz ks++F)) w' w3∧∀b∈mp::cb::(Xz ks++F'),b∈mp::cb::(Xz ks++F)∨w'.heap.size≤b))
   generalize hR:hearM c M.S a.co=R at *
   clear hR
   go_enter Tryz.func52,Tryz.ntmps52
   go_upto_region 1 with fail
   generalize hw1:w.alloc (.cells (acc a) 44)=w1 at *
   generalize hp1:w.heap.size=p1 at *
   clear hw1 hp1
   have om1:=old hm1
   have oa1:=old ha1
   have HA:=Vh ((HU.out (w1.alloc (.cells (msc msZ) 184)).drew Cz6).mono fun e w3 hd=>(⟨hd,by
    have k3:=hd.2.1
    exact k3.keep (x:=.cells (msc msZ) 184 (0,0)) (MapKept.heap_alloc w1 _).1 (fun hm=>by have:=HOF.out _ hm;have:=oa1.lt;omega)⟩:_∧w3.heap[w1.heap.size]? =some (.cells (msc msZ) 184 (0,0))))
   go_region_held3 (fun w'=>w'.heap[mp]? =some (.cells (mcc sy cb c.co RA M.rc.length rcap M.fa) 78 (0,0))∧w'.heap[p1]? =some (.cells (acc a) 44 (0,0)))
    (exact ⟨Chg.keep (l:=F) (w:=w1) Cz2 hm1 HDM.out,Chg.keep (l:=F) (w:=w1) Cz2 ha1 HPF1.out⟩)
    (first |(go_at_call 82;with_reducible refine HA.out.mono ?_;rintro e w3 ⟨⟨rfl,k3,F3,h3,c3,hF3⟩,z3⟩;have T3:Chg F w1 w3:=Chg.trans Cz2 k3)|(go_at_call 82;with_reducible refine (HU.out w1.drew Cz6).mono ?_;rintro e w3 ⟨rfl,k3,F3,h3,c3,hF3⟩;have T3:Chg F w1 w3:=Chg.trans Cz2 k3))
   ·have h5:∃F5,MaM W (w3.alloc (.cells (msc R.2.m) 184)) c mp cb sy F5 ks RA rcap (M.sys R.1)∧Chg (mp::cb::(Xz ks++F)) w (w3.alloc (.cells (msc R.2.m) 184))∧(∀b∈mp::cb::(Xz ks++F5),b∈mp::cb::(Xz ks++F)∨w.heap.size≤b)∧(w3.alloc (.cells (msc R.2.m) 184)).heap[w3.heap.size]? =some (.cells (msc R.2.m) 184 (0,0))∧(w3.alloc (.cells (msc R.2.m) 184)).heap[p1]? =some (.cells (acc a) 44 (0,0)):=by
     exact Tz25
    generalize hw5:w3.alloc (.cells (msc R.2.m) 184)=w5 at *
    generalize hq5:w3.heap.size=q5 at *
    obtain ⟨F5,h5,c5,s5,hq,ha5⟩:=h5
    have H5:=Vh h5
    have C5:=Vh c5
    have S5:=Vh s5
    have oq5:=old hq
    have oa5:=old ha5
    have hm5:=h5.own
    have om5:=old hm5
    clear hw5 hq5 h5 c5 s5 h3 c3 hF3 T3 k3 HU HA H1 C1 hm1 ha1 om1 oa1
    exact Tz31
   ·have h5:∃F5,MaM W (putRow w3 w1.heap.size 0 (msc R.2.m)) c mp cb sy F5 ks RA rcap (M.sys R.1)∧Chg (mp::cb::(Xz ks++F)) w (putRow w3 w1.heap.size 0 (msc R.2.m))∧(∀b∈mp::cb::(Xz ks++F5),b∈mp::cb::(Xz ks++F)∨w.heap.size≤b)∧(putRow w3 w1.heap.size 0 (msc R.2.m)).heap[w1.heap.size]? =some (.cells (msc R.2.m) 184 (0,0))∧(putRow w3 w1.heap.size 0 (msc R.2.m)).heap[p1]? =some (.cells (acc a) 44 (0,0)):=by
     exact Tz7
    generalize hw5:putRow w3 w1.heap.size 0 (msc R.2.m)=w5 at *
    generalize hq5:w1.heap.size=q5 at *
    obtain ⟨F5,h5,c5,s5,hq,ha5⟩:=h5
    have H5:=Vh h5
    have C5:=Vh c5
    have S5:=Vh s5
    have oq5:=old hq
    have oa5:=old ha5
    have hm5:=h5.own
    have om5:=old hm5
    clear hw5 hq5 h5 c5 s5 h3 c3 hF3 T3 k3 HU HA H1 C1 hm1 ha1 om1 oa1 z3
    exact Tz31
 ·have te:((hearM c M.S a.co).2.e !=0)=true:=by simpa using he
  rw [if_neg he]
  clear he
  have HU:=Vh (fun (w':World) (hc:Chg [] (w.alloc (.cells (acc a) 44)) w')=>(uhear (H1.out.keep0 hc).sys HI.out.inv Cz10 HI.out.roomy HT.out a.co).mono fun e w3 hd=>(⟨hd.1,(show ∃F4,Chg F w' w3∧F4=F from hd.2.elim fun F4 h4=>⟨F,h4.2.1,rfl⟩).elim fun _ h=>h.1,(H1.out.keep0 hc).sysTo hd.2⟩:e=.returned (.tuple #[.agg (msc (hearM c M.S a.co).2.m),.int .i64 (hearM c M.S a.co).2.e])∧Chg F w' w3∧∃F',MaM W w3 c mp cb sy F' ks RA rcap (M.sys (hearM c M.S a.co).1)∧Chg (mp::cb::(Xz ks++F)) w' w3∧∀b∈mp::cb::(Xz ks++F'),b∈mp::cb::(Xz ks++F)∨w'.heap.size≤b))
  generalize hR:hearM c M.S a.co=R at *
  clear hR
  go_enter Tryz.func52,Tryz.ntmps52
  go_upto_region 1 with fail
  generalize hw1:w.alloc (.cells (acc a) 44)=w1 at *
  generalize hp1:w.heap.size=p1 at *
  clear hw1 hp1
  have om1:=old hm1
  have oa1:=old ha1
  have HA:=Vh ((HU.out (w1.alloc (.cells (msc msZ) 184)).drew Cz6).mono fun e w3 hd=>(⟨hd,by
   have k3:=hd.2.1
   exact k3.keep (x:=.cells (msc msZ) 184 (0,0)) (MapKept.heap_alloc w1 _).1 (fun hm=>by have:=HOF.out _ hm;have:=oa1.lt;omega)⟩:_∧w3.heap[w1.heap.size]? =some (.cells (msc msZ) 184 (0,0))))
  go_region_held3 (fun w'=>w'.heap[mp]? =some (.cells (mcc sy cb c.co RA M.rc.length rcap M.fa) 78 (0,0))∧w'.heap[p1]? =some (.cells (acc a) 44 (0,0)))
   (exact ⟨Chg.keep (l:=F) (w:=w1) Cz2 hm1 HDM.out,Chg.keep (l:=F) (w:=w1) Cz2 ha1 HPF1.out⟩)
   (first |(go_at_call 82;with_reducible refine HA.out.mono ?_;rintro e w3 ⟨⟨rfl,k3,F3,h3,c3,hF3⟩,z3⟩;have T3:Chg F w1 w3:=Chg.trans Cz2 k3)|(go_at_call 82;with_reducible refine (HU.out w1.drew Cz6).mono ?_;rintro e w3 ⟨rfl,k3,F3,h3,c3,hF3⟩;have T3:Chg F w1 w3:=Chg.trans Cz2 k3))
  ·have h5:∃F5,MaM W (w3.alloc (.cells (msc R.2.m) 184)) c mp cb sy F5 ks RA rcap (M.sys R.1)∧Chg (mp::cb::(Xz ks++F)) w (w3.alloc (.cells (msc R.2.m) 184))∧(∀b∈mp::cb::(Xz ks++F5),b∈mp::cb::(Xz ks++F)∨w.heap.size≤b)∧(w3.alloc (.cells (msc R.2.m) 184)).heap[w3.heap.size]? =some (.cells (msc R.2.m) 184 (0,0))∧(w3.alloc (.cells (msc R.2.m) 184)).heap[p1]? =some (.cells (acc a) 44 (0,0)):=by
    exact Tz25
   generalize hw5:w3.alloc (.cells (msc R.2.m) 184)=w5 at *
   generalize hq5:w3.heap.size=q5 at *
   obtain ⟨F5,h5,c5,s5,hq,ha5⟩:=h5
   have H5:=Vh h5
   have C5:=Vh c5
   have S5:=Vh s5
   have oq5:=old hq
   have oa5:=old ha5
   have hm5:=h5.own
   have om5:=old hm5
   clear hw5 hq5 h5 c5 s5 h3 c3 hF3 T3 k3 HU HA H1 C1 hm1 ha1 om1 oa1
   go_wp2_with fail
   go_ret
   exact ⟨_,_,rfl,EvsAt.nil ..,H5.out.mas,C5.out,S5.out⟩
  ·have h5:∃F5,MaM W (putRow w3 w1.heap.size 0 (msc R.2.m)) c mp cb sy F5 ks RA rcap (M.sys R.1)∧Chg (mp::cb::(Xz ks++F)) w (putRow w3 w1.heap.size 0 (msc R.2.m))∧(∀b∈mp::cb::(Xz ks++F5),b∈mp::cb::(Xz ks++F)∨w.heap.size≤b)∧(putRow w3 w1.heap.size 0 (msc R.2.m)).heap[w1.heap.size]? =some (.cells (msc R.2.m) 184 (0,0))∧(putRow w3 w1.heap.size 0 (msc R.2.m)).heap[p1]? =some (.cells (acc a) 44 (0,0)):=by
    exact Tz7
   generalize hw5:putRow w3 w1.heap.size 0 (msc R.2.m)=w5 at *
   generalize hq5:w1.heap.size=q5 at *
   obtain ⟨F5,h5,c5,s5,hq,ha5⟩:=h5
   have H5:=Vh h5
   have C5:=Vh c5
   have S5:=Vh s5
   have oq5:=old hq
   have oa5:=old ha5
   have hm5:=h5.own
   have om5:=old hm5
   clear hw5 hq5 h5 c5 s5 h3 c3 hF3 T3 k3 HU HA H1 C1 hm1 ha1 om1 oa1 z3
   go_wp2_with fail
   go_ret
   exact ⟨_,_,rfl,EvsAt.nil ..,H5.out.mas,C5.out,S5.out⟩
end
end
section
def ue (v:Int):List Value:=[.int .u64 v]
theorem ue_one (v:Int):∀x∈ue v,x.oneCell'=true:=by intro x hx;simp only [ue,List.mem_singleton] at hx;subst hx;rfl
structure Rf where
 A:Option Addr
 n:Nat
 c:Nat
def Rf.val (r:Rf):Value:=.slice r.A r.n r.c
def re (r:Rf):List Value:=[.slice r.A r.n r.c]
theorem Qia (r:Rf):(re r).length=1:=rfl
theorem re_one (r:Rf):∀x∈re r,x.oneCell'=true:=by intro x hx;simp only [re,List.mem_singleton] at hx;subst hx;rfl
theorem cat_re (fs:List Rf):cat re fs=fs.map Rf.val:=by
 induction fs with
 |nil=>rfl
 |cons x xs ih=>rw [cat_cons,ih];rfl
theorem sq_re_at {fs:List Rf} {r:List Value} {i:Nat} {x:Rf} (h:fs[i]? =some x):(sq re fs r)[i]? =some (.slice x.A x.n x.c):=by
 obtain ⟨h1,e1⟩:=Vg h
 unfold sq
 rw [cat_re,List.getElem?_toArray,List.getElem?_append_left (by simpa using h1),List.getElem?_map,h]
 rfl
theorem sq_re_set {fs:List Rf} {r:List Value} {i:Nat} (h:i<fs.length) (A:Option Addr) (n c:Nat):(sq re fs r).setIfInBounds i (.slice A n c)=sq re (fs.set i ⟨A,n,c⟩) r:=by
 unfold sq
 rw [cat_re,cat_re]
 simp [h,List.map_set,Rf.val]
end
section
set_option maxRecDepth 100000
attribute [local go_sem ↓] Qv QF Qx QP QG Qs Zg Q7 ZH Zt Qk Qh heap_alloc Ql heap_setCell Qc XG XP XO Zi ZP Zu Xk ZQ Xq Xp Xy Xx
attribute [local go_sem] Qb Qa Qe Qi Qd Qg Qf Qt Zk Zf ZE QB Qw QN QL QM Q6 QJ QA Qr QD QX QI Qq QC Qp Qj Qo Qn Qm Zj Zv lit8 QV Xc ZG ZL ZV Zn ZM Xj ZN QH ZO Zx Zy QZ QY Zb XB
attribute [local simp ↓] Qk Qh heap_alloc Ql heap_setCell Qc
attribute [local simp] Qb Qa Qe Qi Qd Qg Qf Qt Qr Qj Qo Qn Qm QV QH QZ QY Zb QD
attribute [local go_sem ↓] Qa3 Qa4 Qa2 Qa1 Qa6 Qa5 Qa0 Qbg
attribute [local go_sem] Y9 Qax Y8 XQ XT Zh Jo Yf Qbh Z9 Zp Zo Zm Zr Zq Zl Zd Zc ZD ZA Jj Yc
attribute [local simp] Zh ZA Zp Zo Zm Zr Zq Zl Zd Zc ZD
attribute [local go_sem ↓] Jl Yb Jk Ya Yg
attribute [local go_sem] Jh Jg Ye Ji QQ QU YH
attribute [local simp] Yg QQ QU QD Z9
attribute [local go_sem ↓] YL Y0 Y1 J5
attribute [local simp] YL
attribute [local go_sem ↓] Qdn Qiz Qix Qiy
attribute [local go_sem] Qdi Qba Qd2 Qd1 fold_cg fold_cg0 sysZ_put sysZ_size
theorem znew_img (W w:World) (c:Cg) (hc:c.Ok) (hW:Chg [] W w) (A:Option Addr) (nc:Nat) (ys:List Int) (hs:Sl w 8 A c.li (ys.map (Value.int .u64))):Calls Tryz.prog 24 #[.agg c.cells,.slice A c.li nc] w (MadeSys W w c (Jn ys c.vo)):=by
 have HC:=Vh hc
 have HW:=Vh hW
 have HSL:=Vh hs
 have tl0:((c.li:Int) !=0)=true:=by have:=hc.li2;simp;omega
 have tl1:((c.li:Int) != (c.li:Int))=false:=by simp
 clear hc hW hs
 go_enter Tryz.func24,Tryz.ntmps24
 try dsimp only [List.append]
 go_wp2_with fail
 have r1:(w.alloc (.cells c.cells 23)).heap[w.heap.size]? =some (.cells c.cells 23 (0,0)):=by simp
 have C1:=Vh ((Chg.refl [] w).alloc (.cells c.cells 23))
 refine (zgood_at c HC.out _).mono ?_
 rintro e w2 ⟨rfl,c2⟩
 replace r1:=c2.keep r1 Vn
 have o1:=old r1
 have C2:=Vh (C1.out.trans c2)
 clear C1 c2
 have NB0:=Vh (show w.heap.size≠w2.heap.size from Nat.ne_of_lt o1.lt)
 generalize w.heap.size=b1 at r1 o1 NB0 ⊢
 go_wp2_with fail
 refine (new_ok c.li c.vo w2 HC.out.li2 HC.out.li64 HC.out.vo1 HC.out.vol).mono ?_
 rintro e w3 ⟨rfl,c3,hdev,hsz⟩
 replace r1:=c3.keep r1 Vn
 replace o1:=old r1
 have C3:=Vh (C2.out.trans c3)
 have HD:=Vh hdev
 have HL:=Vh C2.out.size
 have HGB:=Vh (show w.heap.size≤w2.heap.size+1∧w.heap.size≤w2.heap.size from ⟨by have:=C2.out.size;omega,C2.out.size⟩)
 have NB1:=Vh (show b1≠w2.heap.size from NB0.out)
 have HBB:=Vh (show w.heap.size≤w2.heap.size from C2.out.size)
 generalize w2.heap.size+1=g at HD HGB ⊢
 generalize w2.heap.size=b at HD HL HGB NB1 HBB
 clear c3 hsz
 have HG:=Vh (show w.heap.size≤g∧w.heap.size≤b from HGB.out)
 go_wp2_with fail
 refine (restore_ok g b c.li c.vo _ ys A nc w3 HD.out (HSL.out.chg C3.out (by simp))).mono ?_
 rintro e wr ⟨rfl,cr,dr⟩
 have CR:=Vh (C3.out.trans' cr (fun x hx=>.inr (by rw [Vs hx];exact HBB.out)))
 have DR:=Vh dr
 replace r1:=cr.keep r1 (by simpa using NB1.out)
 replace o1:=old r1
 clear cr dr
 go_wp2_with fail
 refine (fail_ok g b c.li c.vo ys wr DR.out).mono ?_
 rintro e wf ⟨rfl,cf,df⟩
 have CF:=Vh (CR.out.trans' cf (fun x hx=>.inr (by rw [Vs hx];exact HBB.out)))
 have DF:=Vh df
 replace r1:=cf.keep r1 (by simpa using NB1.out)
 replace o1:=old r1
 clear cf df
 go_wp2_with fail
 refine (wsys_new W c.li c.vo c.qu wf g b _ (HW.out.trans CF.out) DF.out (Nat.le_trans HW.out.size HG.out.1) (Nat.le_trans HW.out.size HG.out.2) HC.out.qu1 HC.out.qu16).mono ?_
 rintro e w4 ⟨q,rfl,hsys,c4,hq⟩
 replace r1:=c4.keep r1 Vn
 replace o1:=old r1
 have HS4:=Vh hsys
 have HQ:=Vh hq
 have C4:=Vh (CF.out.trans c4)
 clear hsys hq c4
 go_upto_region 9 with fail
 have rS:(w4.alloc (.cells (sysZ c (some q)) 103)).heap[w4.heap.size]? =some (.cells (sysZ c (some q)) 103 (0,0)):=Qbz _ _
 have K5:=Vh ((Chg.refl [] w4).alloc (.cells (sysZ c (some q)) 103))
 have NS:=Vh (Nat.le_refl w4.heap.size)
 have NQ:=Vh (show q<w4.heap.size∧g<w4.heap.size∧b<w4.heap.size from ⟨HS4.out.2.1.oldq.lt,HS4.out.2.2.1.oldg,HS4.out.2.2.1.oldb⟩)
 have SY0:=Vh C4.out.size
 have HSZ:=Vh (show w4.heap.size≤(w4.alloc (.cells (sysZ c (some q)) 103)).heap.size by simp)
 generalize w4.heap.size=sy at rS NS NQ SY0 HSZ ⊢
 generalize w4.alloc (.cells (sysZ c (some q)) 103)=w5 at rS K5 HSZ ⊢
 have hf:=Qij W w5 c HC.out sy (sysZ c (some q)) ((HW.out.trans C4.out).trans K5.out) (Nat.le_trans HW.out.size SY0.out) rS rfl rfl rfl rfl _ _ rfl rfl
 have HF:=Vh hf
 have HRS:=Vh rS
 clear hf rS r1 o1
 go_wp2_with fail
 refine HF.out.mono ?_
 rintro e w6 ⟨rfl,hfr⟩
 have hS5:=HS4.out.keep K5.out
 have hap:=HS4.out.2.2.2.1
 have hgb:g≠b:=by obtain ⟨_,_,_,_,_,_,_,h⟩:=HS4.out.2.2.1;exact h
 have hnd:([sy,q,g,b]++opt q q).Nodup:=by
  have h1:=NQ.out
  obtain ⟨a1,a2,a3,a4⟩:=hap
  simp [opt]
  omega
 obtain ⟨po,en,L,hm,hp,hc6,hk6⟩:=Qie (z:=⟨sy,q,q,g,b,0,0,List.replicate 6 0⟩) (fun po en=>sysZ_enc c q ⟨sy,q,q,g,b,po,en,List.replicate 6 0⟩ rfl rfl) ((HW.out.trans C4.out).trans K5.out) HRS.out (Nat.le_trans HW.out.size SY0.out) (by simp) hS5 hnd hfr
 have HFIN:=Vh (show MadeSys W w c (Jn ys c.vo) (.returned (.tuple #[.pointer (some ⟨sy,0,none⟩),.int .i64 0])) w6 by
  refine ⟨⟨sy,q,q,g,b,po,en,List.replicate 6 0⟩,L,rfl,hm,hp,((C4.out.trans K5.out).mono (by simp)).trans' hc6 (fun x hx=>.inr (by rw [Vs hx];exact SY0.out)),?_⟩
  intro k hk
  have h1:=HQ.out
  have h2:=HG.out
  have h3:=CF.out.size
  have h4:=SY0.out
  have h5:=C4.out.size
  have h6:=K5.out.size
  rcases hk6 k hk with h|h
  ·simp [opt] at h
   omega
  ·have:=HSZ.out
   omega)
 clear hfr hm hp hc6 hk6 hnd hS5
 go_wp2_with fail
 go_ret2
 exact HFIN.out
theorem mnew_img (W w:World) (c:Cg) (hc:c.Ok) (hW:Chg [] W w) (A:Option Addr) (nc:Nat) (ys:List Int) (hs:Sl w 8 A c.li (ys.map (Value.int .u64))):Calls Tryz.prog 24 #[.agg c.cells,.slice A c.li nc] w fun e w'=>∃sy F,e=.returned (.tuple #[.pointer (some ⟨sy,0,none⟩),.int .i64 0])∧Mem W w' c sy F (List.replicate c.co (pt0 c)) (List.replicate c.li enE) [] (Jn ys c.vo)∧Chg [] w w'∧∀k∈F,w.heap.size≤k:=
 (znew_img W w c hc hW A nc ys hs).mono fun e w' ⟨z,L,he,hm,hp,hc,hk⟩=>⟨z.sy,z.all L,he,⟨z,L,rfl,rfl,hp,hm⟩,hc,hk⟩
end
end Go.Proofs.YtlidfghgjjffaaaGreatDoor
