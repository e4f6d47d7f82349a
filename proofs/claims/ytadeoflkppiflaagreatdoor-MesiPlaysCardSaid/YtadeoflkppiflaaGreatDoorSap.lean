/- Texts of the walk, one behind the other: Ah Ahb Ahc Ahd Ahe. No condition. -/
import Derived.Test.YtadeoflkppiflaaGreatDoorSaa
import Derived.Test.YtadeoflkppiflaaGreatDoorSac
import Derived.Test.YtadeoflkppiflaaGreatDoorSae
import Derived.Test.YtadeoflkppiflaaGreatDoorSaf
import Derived.BigQuiet
import Derived.Deep.Cut
import Derived.Deep.CutBlock
import Derived.Deep.CutRange
import Derived.Deep.DeepCutAuto
import Derived.Deep.QuietTactic
import Derived.Deep.RegionHeld3
import Derived.Deep.RegionWith
namespace Go.Proofs.YtadeoflkppiflaaGreatDoor
open Go.RowKit
set_option linter.unusedVariables false
set_option maxHeartbeats 1000000
set_option maxRecDepth 100000
attribute [local go_sem ↓] QA QQ QH Q8 QS QC Za QN Zs Zh Qm Ql heap_alloc Qo heap_setCell Qb ZF Z4 Z5 Z3 Zc ZB Zk ZI Zv ZM ZK ZN ZL
attribute [local go_sem] Qc Qa Qd Qj Qf Qe Qh Qi Qw ZE QZ Zq QO QG Q6 Q0 Q5 Zi Q9 QM QB QI Zj Q7 Qz QP Qt Qk Qs Qr Qq Qp Qg Zb Ze lit8 QF ZG Zr Zt ZC Zd Zy ZH Zz Qv ZA Zl Zm QE QD QR ZO JZ JY
attribute [local simp ↓] Qm Ql heap_alloc Qo heap_setCell Qb
attribute [local simp] Qc Qa Qd Qj Qf Qe Qh Qi Qw QB Qk Qs Qr Qq Qp Qg QF Qv QE QD QR QI JZ JY
section
def RAg (w:World) (g a b S N:Nat) (s:Sta):Prop:=
 RArr w a b S N s.1 s.2∧w.heap[g]? =some (.cells #[.pointer (some ⟨a,0,none⟩)] 126 (0,0))∧g∉[a,b]∧Sane s.1∧0≤s.2
section
variable {w w':World} {g a b S N:Nat} {s s':Sta} (h:RAg w g a b S N s)
include h
theorem RAg.keep (hc:Chg [] w w'):RAg w' g a b S N s:=⟨h.1.keep hc (by simp) (by simp),hc.keep h.2.1 (by simp),h.2.2⟩
theorem RAg.arr:RArr w a b S N s.1 s.2:=h.1
theorem RAg.good:Good S N s.1:=h.1.2.2.2
theorem RAg.sane:Sane s.1:=h.2.2.2.1
theorem RAg.pos:0≤s.2:=h.2.2.2.2
theorem RAg.new2 {k:Nat} (hk:w.heap.size≤k):k∉[a,b]:=by
 have h1:=ZS h.1.1
 have h2:=ZS h.1.2.1
 simp;omega
theorem RAg.old2:∀x∈[a,b],x<w.heap.size:=by
 have h1:=ZS h.1.1
 have h2:=ZS h.1.2.1
 intro x hx
 simp at hx
 rcases hx with rfl|rfl<;>assumption
theorem RAg.step (hs:RArr w' a b S N s'.1 s'.2) (hc:Chg [a,b] w w') (h1:Sane s'.1) (h2:0≤s'.2):RAg w' g a b S N s':=
 ⟨hs,hc.keep h.2.1 h.2.2.1,h.2.2.1,h1,h2⟩
end
def RgRet (w:World) (g a b S N:Nat) (s:Sta) (f:Value→Value) (ms:List Ms):Ending→World→Prop:=fun e w'=>
 ∃A n,e=.returned (f (.slice A ms.length n))∧Told w w' A ms∧RAg w' g a b S N s∧Chg [a,b] w w'
theorem RAg.calls {w:World} {g a b S N:Nat} {s s':Sta} (h:RAg w g a b S N s) {v:Value} {f:FuncId} {args:Array Value} (h1:Sane s'.1) (h2:0≤s'.2)
 (hc:Calls Tryz.prog f args w (RArrTo w a b S N s'.1 s'.2 v)):Calls Tryz.prog f args w fun e w'=>e=.returned v∧RAg w' g a b S N s'∧Chg [a,b] w w':=
 hc.mono fun e w' ⟨he,hc,hs⟩=>⟨he,h.step hs hc h1 h2,hc⟩
section
variable {w:World} {g a b S N:Nat} {s:Sta} (h:RAg w g a b S N s)
include h
theorem Ju (hu:s.2≤1000000000) (li st:Int) (l:List Int) (hl:l.length=8):Calls Tryz.prog 170 #[.pointer (some ⟨a,0,none⟩),.int .i64 li,.int .i64 st,.agg (vs l)] w
 fun e w'=>e=.returned (.int .i64 (Qds S N s.1 li st))∧RAg w' g a b S N (setS S N s li st l hl)∧Chg [a,b] w w':=
 h.calls (h.sane.set li st l hl) (Int.le_trans h.pos Qfa.1) (rsetl_any a b S N s.1 s.2 li st l hl w h.arr h.pos hu)
theorem Qbf (hu:s.2≤1000000000) (li st:Int):Calls Tryz.prog 170 #[.pointer (some ⟨a,0,none⟩),.int .i64 li,.int .i64 st,.agg #[.int .u64 0,.int .u64 0,.int .u64 0,.int .u64 0,.int .u64 0,.int .u64 0,.int .u64 0,.int .u64 0]] w
 fun e w'=>e=.returned (.int .i64 (Qds S N s.1 li st))∧RAg w' g a b S N (setS S N s li st zl8 rfl)∧Chg [a,b] w w':=Ju h hu li st zl8 rfl
theorem htouch_any (hu:s.2≤1000000000) (li:Int):Calls Tryz.prog 168 #[.pointer (some ⟨a,0,none⟩),.int .i64 li] w
 fun e w'=>e=.returned (.tuple #[])∧RAg w' g a b S N (Qb4 s li)∧Chg [a,b] w w':=
 h.calls (h.sane.touch li) (Int.le_trans h.pos Qfo.1) (rtouch_any a b S N s.1 s.2 li w h.arr h.pos hu)
theorem Qbh (li:Int):Calls Tryz.prog 186 #[.pointer (some ⟨a,0,none⟩),.int .i64 li] w
 fun e w'=>e=.returned (.bool (Xt s.1 li))∧RAg w' g a b S N (Qcm s li)∧Chg [a,b] w w':=
 h.calls (h.sane.drop li) (Int.le_trans h.pos dropS_u.1) (rdrop_any a b S N s.1 s.2 li w h.arr)
end
attribute [local go_sem ↓] YE Yj
attribute [local go_sem] YM
theorem eight8 {l:List Int} (h:l.length=8):∃a0 a1 a2 a3 a4 a5 a6 a7,l=[a0,a1,a2,a3,a4,a5,a6,a7]:=by
 match l,h with
 |[a0,a1,a2,a3,a4,a5,a6,a7],_=>exact ⟨a0,a1,a2,a3,a4,a5,a6,a7,rfl⟩
theorem Qcz (x:Slt) (W:World):(Instr.field 197 (.agg (slc x)) 0).run Tryz.prog W=.ok (.int .i64 x.st) W:=by
 obtain ⟨st,li,l,us,h⟩:=x
 obtain ⟨a0,a1,a2,a3,a4,a5,a6,a7,rfl⟩:=eight8 h
 first |kernel_rfl|rfl
theorem Qc0 (x:Slt) (W:World):(Instr.field 197 (.agg (slc x)) 2).run Tryz.prog W=.ok (.agg (vs x.l)) W:=by
 obtain ⟨st,li,l,us,h⟩:=x
 obtain ⟨a0,a1,a2,a3,a4,a5,a6,a7,rfl⟩:=eight8 h
 first |kernel_rfl|rfl
attribute [local go_sem ↓] Qcz Qc0
theorem Qge {fn:Func} {p:Tmp} (h:fn.results=#[.cell p 197]) (tmps:Array Value) (w:World) (b:Nat) (x:Slt) (fr:Nat×Nat)
 (hp:tmps.getD p undef=.pointer (some ⟨b,0,none⟩)) (hb:w.heap[b]? =some (.cells (slc x) 197 fr)):
 (results fn tmps).run Tryz.prog w=.ok (.agg (slc x)) w:=by
 have hp':tmps[p]?.getD undef=.pointer (some ⟨b,0,none⟩):=by simpa using hp
 have:=run_loadVar_row (P:=Tryz.prog) w b 197 197 (slc x) fr _ hb Tryz.underlying197 rfl (by rw [QF];kernel_rfl)
 exact Tz93
theorem there_eq (li k:Int):(isLn li&&isWd k)=(((decide (0≤li)&&decide (li≤63))&&decide (0≤k))&&decide (k≤7)):=by
 unfold isLn isWd
 rw [Bool.eq_iff_iff]
 simp
 omega
theorem hthere_any (li k:Int) (w:World):Calls Tryz.prog 166 #[.int .i64 li,.int .i64 k] w fun e w'=>e=.returned (.bool (isLn li&&isWd k))∧w=w':=by
 cases t1:decide (0≤li)<;>cases t2:decide (li≤63)<;>cases t3:decide (0≤k)
 all_goals
  go_enter Tryz.func166,Tryz.ntmps166
  try dsimp only [List.append]
  go_wp2_with fail
  go_ret
  exact ⟨by rw [there_eq];simp [t1,t2,t3],rfl⟩
theorem XD {g a b S N:Nat} {s:Sta} (li:Int) (w:World) (h:RAg w g a b S N s):Calls Tryz.prog 167 #[.pointer (some ⟨g,0,none⟩),.int .i64 li] w fun e w'=>e=.returned (.agg (slc (Qn s.1 li)))∧Chg [] w w':=by
 have H:=Vh h
 have rG:=h.2.1
 clear h
 have ha:=H.out.arr.1
 have hb:=H.out.arr.2.1
 have h64:=H.out.good.len64
 rcases Qgo (Xv li) s.1 with ⟨k,y,e1,e2,e3,e4,e5,e6⟩|⟨e1,e2,e3⟩
 ·have hv:Qn s.1 li=y:=by unfold Qn;rw [e2,e3]
  rw [hv]
  have hat:=Qd1 a b S N s.1 s.2 li
  rw [e1] at hat
  have r1:=slt_row e3 [] 197 (0,0)
  have r2:=Qf8 e3 [] 197 (0,0)
  have g0:(0:Int)≤(k:Int):=by omega
  have g1:(k:Int)<(s.1.length:Int):=by omega
  have g2:(s.1.length:Int)≤64:=by omega
  clear e1 e2 e3 e4 e6 hv
  go_enter Tryz.func167,Tryz.ntmps167
  try dsimp only [List.append]
  go_wp2_with fail
  refine (hat _ (H.out.arr.keep ((Chg.refl [] w).alloc _) (by simp) (by simp))).mono ?_
  rintro e w' ⟨rfl,rfl⟩
  go_wp2_with fail
  refine bodyPost_ret (Qge (by rfl) _ _ (w.heap.size) y (0,0) (by rfl) (by simp;try rfl)) (by rfl) ?_
  exact Tz0
 ·have hv:Qn s.1 li=sltZ:=by unfold Qn;rw [e2,List.getElem?_eq_none (Nat.le_refl _)]
  rw [hv]
  have hat:=Qd1 a b S N s.1 s.2 li
  rw [e1] at hat
  clear e1 e2 e3 hv
  go_enter Tryz.func167,Tryz.ntmps167
  try dsimp only [List.append]
  go_wp2_with fail
  refine (hat _ (H.out.arr.keep ((Chg.refl [] w).alloc _) (by simp) (by simp))).mono ?_
  rintro e w' ⟨rfl,rfl⟩
  go_wp2_with fail
  refine bodyPost_ret (Qge (by rfl) _ _ (w.heap.size) sltZ (0,0) (by rfl) (by simp;try rfl)) (by rfl) ?_
  exact Tz0
theorem howns_any {g a b S N:Nat} {s:Sta} (li:Int) (w:World) (h:RAg w g a b S N s):Calls Tryz.prog 111 #[.pointer (some ⟨g,0,none⟩),.int .i64 li] w fun e w'=>e=.returned (.bool (JN s.1 li))∧Chg [] w w':=by
 have H:=Vh h
 have rG:=h.2.1
 clear h
 have hf:=XD li w H.out
 unfold JN Qfk
 generalize Qn s.1 li=x at hf
 cases t1:(x.st==2)
 all_goals
  go_enter Tryz.func111,Tryz.ntmps111
  try dsimp only [List.append]
  go_wp2_with fail
  refine hf.mono ?_
  rintro e w2 ⟨rfl,c2⟩
  go_wp2_with fail
  go_ret
  exact ⟨by first |simp|simp [t1],c2⟩
theorem Qat {g a b S N:Nat} {s:Sta} (li:Int) (v:Bool) (hv:JN s.1 li=v) (w:World) (h:RAg w g a b S N s):Calls Tryz.prog 111 #[.pointer (some ⟨g,0,none⟩),.int .i64 li] w fun e w'=>e=.returned (.bool v)∧Chg [] w w':=hv▸howns_any li w h
theorem hone_any (kd li:Int) (w:World):Calls Tryz.prog 172 #[.int .i64 kd,.int .i64 li] w (MsTo w [ms4 kd li false false]):=by
 go_enter Tryz.func172,Tryz.ntmps172
 try dsimp only [List.append]
 go_wp2_with fail
 go_ret
 exact MsTo.one (Chg.refl [] w) _
theorem hidle_any {g a b S N:Nat} {s:Sta} (w:World) (h:RAg w g a b S N s):Calls Tryz.prog 171 #[.pointer (some ⟨g,0,none⟩)] w fun e w'=>e=.returned (.bool (Jy s.1))∧Chg [] w w':=by
 have H:=Vh h
 have rG:=h.2.1
 clear h
 have ha:=H.out.arr.1
 have hb:=H.out.arr.2.1
 have h64:=H.out.good.len64
 have HS:=Vh H.out.sane
 obtain ⟨ys,hys⟩:∃ys,ys=s.1:=⟨_,rfl⟩
 rw [←hys] at ha hb h64 HS ⊢
 obtain ⟨n,hn⟩:∃n,n=ys.length:=⟨_,rfl⟩
 rw [←hn] at ha h64
 have HN:=Vh hn
 have HA:=Vh ha
 have HB:=Vh hb
 have HG:=Vh rG
 clear hys hn ha hb rG
 go_enter Tryz.func171,Tryz.ntmps171
 try dsimp only [List.append]
 go_wp2_with fail
 go_loopw [3] (fun i wr=>∃k:Nat,k≤n∧i=.int .i64 k∧Chg [] w wr∧∀x∈ys.take k,restB x=true) (fun i _=>n-(intOf i).toNat)
 case atStart=>exact ⟨0,by omega,rfl,Chg.refl _ _,by simp⟩
 case round=>
  obtain ⟨k,hk,rfl,hc,hall⟩:=hrel
  have ha:=hc.keep HA.out (by simp)
  have hb:=hc.keep HB.out (by simp)
  have rG:=hc.keep HG.out (by simp)
  by_cases hlt:k<n
  ·obtain ⟨y,hy⟩:∃y,ys[k]? =some y:=⟨ys[k]'Cz17,List.getElem?_eq_getElem _⟩
   have hst:=slt_st hy []
   have g1:(k:Int)<(n:Int):=by omega
   have g0:(0:Int)≤(k:Int):=by omega
   have g2:(n:Int)≤64:=by omega
   have hry:=rest_le (x:=y) (HS.out y (List.mem_of_getElem? hy)).1
   have HAL:=Vh hall
   have HK:=Vh hc
   have ht:=List.take_succ_eq_append_getElem (by rw [←HN.out];exact hlt:k<ys.length)
   rw [show ys[k]'Cz17=y from (Vg hy).2] at ht
   have HT:=Vh ht
   have HY:=Vh hy
   have HR:=Vh hry
   clear hall hc ht hy hry
   cases hr:decide (3<y.st)
   ·go_wp2_with fail
    go_roundw
    case rel=>
     refine ⟨k+1,by omega,by go_num,HK.out,?_⟩
     rw [HT.out]
     intro x hx
     rcases List.mem_append.1 hx with h1|h1
     ·exact HAL.out x h1
     ·rw [Vs h1,HR.out];simp at hr ⊢;omega
    case measure=>simp [intOf];omega
   ·go_wp2_with fail
    go_ret
    refine ⟨?_,HK.out⟩
    have:Jy ys=false:=by
     unfold Jy
     rw [List.all_eq_false]
     exact ⟨y,List.mem_of_getElem? HY.out,by rw [HR.out];simp at hr ⊢;omega⟩
    rw [this]
    rfl
  ·obtain rfl:k=n:=by omega
   have HAL:=Vh hall
   have HK:=Vh hc
   clear hall hc
   go_wp2_with fail
   go_ret
   refine ⟨?_,HK.out⟩
   have:Jy ys=true:=by
    unfold Jy
    rw [List.all_eq_true]
    intro x hx
    exact HAL.out x (by rw [HN.out,List.take_length];exact hx)
   rw [this]
   rfl
theorem JK {g a b S N:Nat} {s:Sta} (v:Bool) (hv:Jy s.1=v) (w:World) (h:RAg w g a b S N s):Calls Tryz.prog 171 #[.pointer (some ⟨g,0,none⟩)] w fun e w'=>e=.returned (.bool v)∧Chg [] w w':=hv▸hidle_any w h
end
section
attribute [local go_sem ↓] YE Yj Qcz Qc0
attribute [local go_sem] YM
theorem RAg.new3 {w:World} {g a b S N:Nat} {s:Sta} (h:RAg w g a b S N s) {k:Nat} (hk:w.heap.size≤k):k∉[g,a,b]:=by
 have h1:=h.new2 hk
 have h2:=ZS h.2.1
 simp at h1 ⊢
 omega
theorem RAg.apart {w w':World} {g a b S N:Nat} {s:Sta} (h:RAg w g a b S N s) {k:Nat} (hc:Chg [k] w w') (hk:k∉[g,a,b]):RAg w' g a b S N s:=by
 have h1:g∉[k]∧a∉[k]∧b∉[k]:=by simp at hk ⊢;omega
 exact ⟨h.1.keep hc h1.2.1 h1.2.2,hc.keep h.2.1 h1.1,h.2.2⟩
section
variable {w w1 w2:World} {g a b S N:Nat} {s:Sta} {f:Value→Value}
theorem RgRet.one (h:RAg w1 g a b S N s) (hc:Chg [a,b] w w1) (m:Ms):RgRet w g a b S N s f [m] (.returned (f (.slice (some ⟨w1.heap.size,0,none⟩) 1 1))) (w1.alloc (.cells (msc m) 38)):=
 ⟨_,1,rfl,(Told.one w1 m).from hc.size,h.keep ((Chg.refl [] w1).alloc _),hc.alloc _⟩
theorem RgRet.nil (h:RAg w1 g a b S N s) (hc:Chg [a,b] w w1):RgRet w g a b S N s f [] (.returned (f (.slice none 0 0))) w1:=
 ⟨none,0,rfl,Told.nil _ _,h,hc⟩
theorem RgRet.ms {A:Option Addr} {ms:List Ms} {n:Nat} (h:RAg w1 g a b S N s) (hc:Chg [a,b] w w1) (h1:Told w1 w2 A ms) (c:Chg [] w1 w2):RgRet w g a b S N s f ms (.returned (f (.slice A ms.length n))) w2:=
 ⟨A,n,rfl,h1.from hc.size,h.keep c,hc.trans (Zp c)⟩
end
theorem hout_any {g a b S N:Nat} {s:Sta} (li:Int) (hr:Xs (Qn s.1 li).st=true) (w:World) (h:RAg w g a b S N s) (hu:s.2≤1000000000):Calls Tryz.prog 190 #[.pointer (some ⟨g,0,none⟩),.int .i64 li] w (RgRet w g a b S N (outF S N s li).1 (fun v=>v) (outF S N s li).2):=by
 have H:=Vh h
 have rG:=h.2.1
 have CW:=Vh (Chg.refl [a,b] w)
 clear h
 have hf:=XD li w H.out
 have hx0:(Qn s.1 li).st≠0:=by have:=(Qcw _).1 hr;omega
 have hxl:=(Qeh hx0).1
 rw [Qgh hr]
 generalize Qn s.1 li=x at hf hr hxl
 have hx8:=x.h
 have told:Yf 3 x false=if x.st=3 then ((ms4 3 li false false).putDi true).putL x.l x.h else (ms4 3 li false false):=by
  unfold Yf
  have:=(Qcw _).1 hr
  by_cases h3:x.st=3
  ·rw [if_pos (.inl h3),if_pos h3,←hxl];rfl
  ·rw [if_neg (by omega),if_neg h3,hxl]
 rw [told]
 clear told hxl hx0 hr
 cases q1:(x.st==3)
 ·rw [if_neg (by simpa using q1),show Qc7 x.st=7 by unfold Qc7;rw [if_neg (by simpa using q1)]]
  go_enter Tryz.func190,Tryz.ntmps190
  try dsimp only [List.append]
  go_wp2_with fail
  refine hf.mono ?_
  clear hf
  rintro e w2 ⟨rfl,c2⟩
  replace H:=Vh (H.out.keep c2)
  replace CW:=Vh (CW.out.trans (Zp c2))
  clear c2
  have rG:=H.out.2.1
  go_upto_region 2 with fail
  have cb:=(Chg.refl [] w2).alloc (.cells (slc x) 197 (0,0))
  have rX:(w2.alloc (.cells (slc x) 197 (0,0))).heap[w2.heap.size]? =some (.cells (slc x) 197 (0,0)):=by simp
  have nX:=H.out.new2 (k:=w2.heap.size) (Nat.le_refl _)
  have mX:=H.out.new3 (k:=w2.heap.size) (Nat.le_refl _)
  have uX:=CW.out.size
  replace H:=Vh (H.out.keep cb)
  replace CW:=Vh (CW.out.trans (Zp cb))
  clear cb
  generalize w2.heap.size=pX at rX nX mX uX ⊢
  generalize w2.alloc (.cells (slc x) 197 (0,0))=w3 at rX H CW ⊢
  have rG:=H.out.2.1
  have oX:=old rX
  go_upto_if 15 with fail
  have dX:=ZS rX
  have cb:=(Chg.refl [] w3).alloc (.cells (msc (ms4 3 li false false)) 38 (0,0))
  have rM:(w3.alloc (.cells (msc (ms4 3 li false false)) 38 (0,0))).heap[w3.heap.size]? =some (.cells (msc (ms4 3 li false false)) 38 (0,0)):=by simp
  have nM:=H.out.new2 (k:=w3.heap.size) (Nat.le_refl _)
  have mM:=H.out.new3 (k:=w3.heap.size) (Nat.le_refl _)
  have uM:=CW.out.size
  replace H:=Vh (H.out.keep cb)
  replace CW:=Vh (CW.out.trans (Zp cb))
  replace rX:=cb.keep rX Vn
  clear cb
  generalize w3.heap.size=pM at rM nM mM uM dX ⊢
  generalize w3.alloc (.cells (msc (ms4 3 li false false)) 38 (0,0))=w5 at rM H CW rX ⊢
  have rG:=H.out.2.1
  have oM:=old rM
  have e1:¬pX=pM:=by omega
  have e2:¬pM=pX:=by omega
  go_wp2_with fail
  have nG:=H.out.2.2.1
  go_region_held3 (fun w'=>w'.heap[g]? =some (.cells #[.pointer (some ⟨a,0,none⟩)] 126 (0,0))∧w'.heap[pX]? =some (.cells (slc x) 197 (0,0))∧w'.heap[pM]? =some (.cells (msc (ms4 3 li false false)) 38 (0,0))) (first |exact ⟨rG,rX,rM⟩|exact ⟨c4.keep rG nG,c4.keep rX nX,c4.keep rM nM⟩)
   (first
    |(go_at_call 170;refine (Ju (H.out.keep (Chg.drew (Chg.refl [] w5))) hu li 7 x.l x.h).mono ?_;rintro e w4 ⟨rfl,h4,c4⟩))
  all_goals
   replace H:=Vh h4
   replace CW:=Vh (CW.out.trans (Chg.trans (Chg.drew (Chg.refl [a,b] w5)) c4))
   exact Tz144
 ·rw [if_pos (by simpa using q1),show Qc7 x.st=9 by unfold Qc7;rw [if_pos (by simpa using q1)]]
  go_enter Tryz.func190,Tryz.ntmps190
  try dsimp only [List.append]
  go_wp2_with fail
  refine hf.mono ?_
  clear hf
  rintro e w2 ⟨rfl,c2⟩
  replace H:=Vh (H.out.keep c2)
  replace CW:=Vh (CW.out.trans (Zp c2))
  clear c2
  have rG:=H.out.2.1
  go_upto_region 2 with fail
  have cb:=(Chg.refl [] w2).alloc (.cells (slc x) 197 (0,0))
  have rX:(w2.alloc (.cells (slc x) 197 (0,0))).heap[w2.heap.size]? =some (.cells (slc x) 197 (0,0)):=by simp
  have nX:=H.out.new2 (k:=w2.heap.size) (Nat.le_refl _)
  have mX:=H.out.new3 (k:=w2.heap.size) (Nat.le_refl _)
  have uX:=CW.out.size
  replace H:=Vh (H.out.keep cb)
  replace CW:=Vh (CW.out.trans (Zp cb))
  clear cb
  generalize w2.heap.size=pX at rX nX mX uX ⊢
  generalize w2.alloc (.cells (slc x) 197 (0,0))=w3 at rX H CW ⊢
  have rG:=H.out.2.1
  have oX:=old rX
  go_upto_if 15 with fail
  have dX:=ZS rX
  have cb:=(Chg.refl [] w3).alloc (.cells (msc (ms4 3 li false false)) 38 (0,0))
  have rM:(w3.alloc (.cells (msc (ms4 3 li false false)) 38 (0,0))).heap[w3.heap.size]? =some (.cells (msc (ms4 3 li false false)) 38 (0,0)):=by simp
  have nM:=H.out.new2 (k:=w3.heap.size) (Nat.le_refl _)
  have mM:=H.out.new3 (k:=w3.heap.size) (Nat.le_refl _)
  have uM:=CW.out.size
  replace H:=Vh (H.out.keep cb)
  replace CW:=Vh (CW.out.trans (Zp cb))
  replace rX:=cb.keep rX Vn
  clear cb
  generalize w3.heap.size=pM at rM nM mM uM dX ⊢
  generalize w3.alloc (.cells (msc (ms4 3 li false false)) 38 (0,0))=w5 at rM H CW rX ⊢
  have rG:=H.out.2.1
  have oM:=old rM
  have e1:¬pX=pM:=by omega
  have e2:¬pM=pX:=by omega
  go_wp2_with fail
  go_region
  all_goals
   have cb:Chg [pM] w5 (putRow (w5.setCell ⟨pM,2,none⟩ (.bool true)).drew pM 4 (vs x.l)):=(((Chg.refl [pM] w5).setCell _ _ _ (.inl (by simp))).drew).putRow _ _ _ (.inl (by simp))
   have rM2:(putRow (w5.setCell ⟨pM,2,none⟩ (.bool true)).drew pM 4 (vs x.l)).heap[pM]? =some (.cells (msc (((ms4 3 li false false).putDi true).putL x.l x.h)) 38 (0,0)):=by simp (maxDischargeDepth:=8) [rM,hx8]
   replace rX:=cb.keep rX (by simp [e1])
   replace CW:=Vh (CW.out.trans' cb (by simp [uM]))
   replace H:=Vh (H.out.apart cb mM)
   clear cb rM rG
   generalize (putRow (w5.setCell ⟨pM,2,none⟩ (.bool true)).drew pM 4 (vs x.l))=w6 at rX rM2 H CW ⊢
   have rM:=rM2
   clear rM2
   have rG:=H.out.2.1
   have oX:=old rX
   have oM:=old rM
   go_wp2_with fail
   have nG:=H.out.2.2.1
   go_region_held3 (fun w'=>w'.heap[g]? =some (.cells #[.pointer (some ⟨a,0,none⟩)] 126 (0,0))∧w'.heap[pX]? =some (.cells (slc x) 197 (0,0))∧w'.heap[pM]? =some (.cells (msc (((ms4 3 li false false).putDi true).putL x.l x.h)) 38 (0,0))) (first |exact ⟨rG,rX,rM⟩|exact ⟨c4.keep rG nG,c4.keep rX nX,c4.keep rM nM⟩)
    (first
     |(go_at_call 170;refine (Ju (H.out.keep (Chg.drew (Chg.refl [] w6))) hu li 9 x.l x.h).mono ?_;rintro e w4 ⟨rfl,h4,c4⟩))
   all_goals
    replace H:=Vh h4
    replace CW:=Vh (CW.out.trans (Chg.trans (Chg.drew (Chg.refl [a,b] w6)) c4))
    exact Tz144
end
section
attribute [local go_sem ↓] YE Yj Qcz Qc0
attribute [local go_sem] YM
theorem free_room {S N:Nat} {xs:List Slt} {li:Int} (h0:0≤li):X5 S N xs li=decide (0≤Qgu S N xs li):=by
 unfold X5 Qgu
 by_cases h:(seg N xs (Xc S li)).findIdx YZ<N
 ·rw [if_pos h,decide_eq_true (show (0:Int)≤((Xc S li*N+(seg N xs (Xc S li)).findIdx YZ:Nat):Int) from Int.natCast_nonneg _)]
  simp [h0,h]
 ·rw [if_neg h];simp [h]
theorem free_vic {S N:Nat} {xs:List Slt} {li:Int} (h0:0≤li) (h:X5 S N xs li=false):Y5 S N xs li=eld (seg N xs (Xc S li)):=by
 unfold X5 at h
 unfold Y5
 rw [if_neg (by omega),if_neg]
 intro h1
 simp [h0,h1] at h
theorem hmiss_no {g a b S N:Nat} {s:Sta} (li st kd:Int) (hi:Jy s.1=false) (w:World) (h:RAg w g a b S N s):Calls Tryz.prog 169 #[.pointer (some ⟨g,0,none⟩),.int .i64 li,.int .i64 st,.int .i64 kd] w (RgRet w g a b S N s (fun v=>v) []):=by
 have H:=Vh h
 have rG:=h.2.1
 have CW:=Vh (Chg.refl [a,b] w)
 clear h
 go_enter Tryz.func169,Tryz.ntmps169
 try dsimp only [List.append]
 go_wp2_with fail
 refine (JK _ hi w H.out).mono ?_
 rintro e w2 ⟨rfl,c2⟩
 go_wp2_with fail
 go_ret
 exact RgRet.nil (f:=fun v=>v) (H.out.keep c2) (Zp c2)
theorem hmiss_any {g a b S N:Nat} {s:Sta} (li st kd:Int) (hi:Jy s.1=true) (h0:0≤li) (w:World) (h:RAg w g a b S N s) (hu:s.2≤1000000000):Calls Tryz.prog 169 #[.pointer (some ⟨g,0,none⟩),.int .i64 li,.int .i64 st,.int .i64 kd] w (RgRet w g a b S N (getF S N s li st kd).1 (fun v=>v) (getF S N s li st kd).2):=by
 have H:=Vh h
 have rG:=h.2.1
 have CW:=Vh (Chg.refl [a,b] w)
 clear h
 have hfr:=fun W' hW=>rfree_ok a b S N s.1 s.2 li W' hW h0
 have hfm:=free_room (S:=S) (N:=N) (xs:=s.1) h0
 cases hr:X5 S N s.1 li
 ·have t1:decide (0≤Qgu S N s.1 li)=false:=by rw [←hfm];exact hr
  have hv:=free_vic h0 hr
  have hvi:=fun W' hW=>rvictim_ok a b S N s.1 s.2 li W' hW h0
  rw [show getF S N s li st kd=outF S N s (Y5 S N s.1 li) by unfold getF;rw [if_neg (by simp [hr])],hv]
  have hre:=eld_rest (N:=N) (t:=Xc S li) hi
  generalize eld (seg N s.1 (Xc S li))=v at hvi hre
  clear hv hfm
  cases t2:decide (0≤v)
  ·rw [outF_none H.out.good (by simpa using t2)]
   go_enter Tryz.func169,Tryz.ntmps169
   try dsimp only [List.append]
   go_wp2_with fail
   refine (JK _ hi w H.out).mono ?_
   rintro e w2 ⟨rfl,c2⟩
   replace H:=Vh (H.out.keep c2)
   replace CW:=Vh (CW.out.trans (Zp c2))
   clear c2
   have rG:=H.out.2.1
   go_wp2_with fail
   refine (hfr w2 H.out.arr).mono ?_
   rintro e w3 ⟨rfl,c3⟩
   replace H:=Vh (H.out.keep c3)
   replace CW:=Vh (CW.out.trans (Zp c3))
   clear c3
   have rG:=H.out.2.1
   go_wp2_with fail
   refine (hvi w3 H.out.arr).mono ?_
   rintro e w4 ⟨rfl,c4⟩
   replace H:=Vh (H.out.keep c4)
   replace CW:=Vh (CW.out.trans (Zp c4))
   clear c4
   have rG:=H.out.2.1
   go_wp2_with fail
   go_ret
   exact RgRet.nil (f:=fun v=>v) H.out CW.out
  ·have hrr:=hre (by simpa using t2)
   clear hre
   go_enter Tryz.func169,Tryz.ntmps169
   try dsimp only [List.append]
   go_wp2_with fail
   refine (JK _ hi w H.out).mono ?_
   rintro e w2 ⟨rfl,c2⟩
   replace H:=Vh (H.out.keep c2)
   replace CW:=Vh (CW.out.trans (Zp c2))
   clear c2
   have rG:=H.out.2.1
   go_wp2_with fail
   refine (hfr w2 H.out.arr).mono ?_
   rintro e w3 ⟨rfl,c3⟩
   replace H:=Vh (H.out.keep c3)
   replace CW:=Vh (CW.out.trans (Zp c3))
   clear c3
   have rG:=H.out.2.1
   go_wp2_with fail
   refine (hvi w3 H.out.arr).mono ?_
   rintro e w4 ⟨rfl,c4⟩
   replace H:=Vh (H.out.keep c4)
   replace CW:=Vh (CW.out.trans (Zp c4))
   clear c4
   have rG:=H.out.2.1
   go_wp2_with fail
   refine (hout_any v hrr w4 H.out hu).mono ?_
   rintro e w5 ⟨A,n,rfl,h1,h2,h3⟩
   go_wp2_with fail
   go_ret
   exact Tz74
 ·have t1:decide (0≤Qgu S N s.1 li)=true:=by rw [←hfm];exact hr
  rw [show getF S N s li st kd=(setS S N s li st zl8 rfl,[ms4 kd li false false]) by unfold getF;rw [if_pos hr]]
  clear hfm
  go_enter Tryz.func169,Tryz.ntmps169
  try dsimp only [List.append]
  go_wp2_with fail
  refine (JK _ hi w H.out).mono ?_
  rintro e w2 ⟨rfl,c2⟩
  replace H:=Vh (H.out.keep c2)
  replace CW:=Vh (CW.out.trans (Zp c2))
  clear c2
  have rG:=H.out.2.1
  go_wp2_with fail
  refine (hfr w2 H.out.arr).mono ?_
  rintro e w3 ⟨rfl,c3⟩
  replace H:=Vh (H.out.keep c3)
  replace CW:=Vh (CW.out.trans (Zp c3))
  clear c3
  have rG:=H.out.2.1
  go_wp2_with fail
  refine (Qbf H.out hu li st).mono ?_
  rintro e w4 ⟨rfl,h4,c4⟩
  replace H:=Vh h4
  replace CW:=Vh (CW.out.trans c4)
  go_wp2_with fail
  refine (hone_any kd li w4).mono ?_
  rintro e w5 ⟨A,n,rfl,h1,c5⟩
  go_wp2_with fail
  go_ret
  exact RgRet.ms (f:=fun v=>v) H.out CW.out h1 c5
theorem Yy (li k:Int) (v:Bool) (h:(isLn li&&isWd k)=v) (w:World):Calls Tryz.prog 166 #[.int .i64 li,.int .i64 k] w fun e w'=>e=.returned (.bool v)∧w=w':=h▸hthere_any li k w
theorem hreach_any {g a b S N:Nat} {s:Sta} (li:Int) (w:World) (h:RAg w g a b S N s) (hu:s.2≤1000000000):Calls Tryz.prog 112 #[.pointer (some ⟨g,0,none⟩),.int .i64 li] w (RgRet w g a b S N (reachF S N s li).1 (fun v=>v) (reachF S N s li).2):=by
 have H:=Vh h
 have rG:=h.2.1
 have CW:=Vh (Chg.refl [a,b] w)
 clear h
 have hsl:=fun W' hW=>XD (g:=g) (a:=a) (b:=b) (S:=S) (N:=N) (s:=s) li W' hW
 cases tl:isLn li
 ·have t1:(isLn li&&isWd 0)=false:=by rw [tl];rfl
  rw [show reachF S N s li=(s,[]) by unfold reachF;rw [if_neg (by simp [tl])]]
  go_enter Tryz.func112,Tryz.ntmps112
  try dsimp only [List.append]
  go_wp2_with (go_at_call 166;refine (Yy _ _ _ t1 _).mono ?_;rintro e w' ⟨rfl,rfl⟩)
  go_ret
  exact RgRet.nil (f:=fun v=>v) H.out CW.out
 have t1:(isLn li&&isWd 0)=true:=by rw [tl];rfl
 have h0:0≤li:=by simp [isLn] at tl;exact tl.1
 cases ho:JN s.1 li
 rotate_left
 ·rw [show reachF S N s li=(s,[]) by unfold reachF;rw [if_neg (by simp [ho])]]
  go_enter Tryz.func112,Tryz.ntmps112
  try dsimp only [List.append]
  go_wp2_with (go_at_call 166;refine (Yy _ _ _ t1 _).mono ?_;rintro e w' ⟨rfl,rfl⟩)
  refine (Qat li _ ho w H.out).mono ?_
  rintro e w2 ⟨rfl,c2⟩
  exact Tz137
 cases hi:Jy s.1
 ·rw [show reachF S N s li=(s,[]) by unfold reachF;rw [if_neg (by simp [hi])]]
  go_enter Tryz.func112,Tryz.ntmps112
  try dsimp only [List.append]
  go_wp2_with (go_at_call 166;refine (Yy _ _ _ t1 _).mono ?_;rintro e w' ⟨rfl,rfl⟩)
  refine (Qat li _ ho w H.out).mono ?_
  rintro e w2 ⟨rfl,c2⟩
  replace H:=Vh (H.out.keep c2)
  replace CW:=Vh (CW.out.trans (Zp c2))
  clear c2
  have rG:=H.out.2.1
  go_wp2_with fail
  refine (JK _ hi w2 H.out).mono ?_
  rintro e w3 ⟨rfl,c2⟩
  exact Tz137
 have hgo:(isLn li&&!JN s.1 li&&Jy s.1)=true:=by simp [tl,ho,hi]
 have hst:Xt s.1 li=((Qn s.1 li).st==1):=by
  rw [Qgz]
  unfold JN Qfk at ho
  rcases Qbe hi li with h|h
  ·rw [h];rfl
  ·have:=(Qcw _).1 h
   have h1:(Qn s.1 li).st=1:=by simp at ho;omega
   rw [h1];rfl
 cases q1:((Qn s.1 li).st==1)
 ·rw [show reachF S N s li=getF S N s li 5 2 by unfold reachF;rw [if_pos hgo,if_neg (by rw [hst,q1];simp)]]
  clear hgo hst
  generalize Qn s.1 li=x at hsl q1
  go_enter Tryz.func112,Tryz.ntmps112
  try dsimp only [List.append]
  go_wp2_with (go_at_call 166;refine (Yy _ _ _ t1 _).mono ?_;rintro e w' ⟨rfl,rfl⟩)
  refine (Qat li _ ho w H.out).mono ?_
  rintro e w2 ⟨rfl,c2⟩
  replace H:=Vh (H.out.keep c2)
  replace CW:=Vh (CW.out.trans (Zp c2))
  clear c2
  have rG:=H.out.2.1
  go_wp2_with fail
  refine (JK _ hi w2 H.out).mono ?_
  rintro e w3 ⟨rfl,c2⟩
  replace H:=Vh (H.out.keep c2)
  replace CW:=Vh (CW.out.trans (Zp c2))
  clear c2
  have rG:=H.out.2.1
  go_wp2_with fail
  refine (hsl w3 H.out).mono ?_
  clear hsl
  rintro e w4 ⟨rfl,c4⟩
  replace H:=Vh (H.out.keep c4)
  replace CW:=Vh (CW.out.trans (Zp c4))
  clear c4
  have rG:=H.out.2.1
  go_wp2_with fail
  have cb:=(Chg.refl [] w4).alloc (.cells (slc x) 197 (0,0))
  have rX:(w4.alloc (.cells (slc x) 197 (0,0))).heap[w4.heap.size]? =some (.cells (slc x) 197 (0,0)):=by simp
  have nX:=H.out.new2 (k:=w4.heap.size) (Nat.le_refl _)
  have mX:=H.out.new3 (k:=w4.heap.size) (Nat.le_refl _)
  have uX:=CW.out.size
  replace H:=Vh (H.out.keep cb)
  replace CW:=Vh (CW.out.trans (Zp cb))
  clear cb
  generalize w4.heap.size=pX at rX nX mX uX ⊢
  generalize w4.alloc (.cells (slc x) 197 (0,0))=w5 at rX H CW ⊢
  have rG:=H.out.2.1
  have oX:=old rX
  go_wp2_with fail
  refine (hmiss_any li 5 2 hi h0 w5 H.out hu).mono ?_
  rintro e w6 ⟨A,n,rfl,h1,h2,h3⟩
  go_wp2_with fail
  go_ret
  exact Tz74
 ·rw [show reachF S N s li=(setS S N s li 6 (Qn s.1 li).l (Qn s.1 li).h,[ms4 2 li false false]) by unfold reachF;rw [if_pos hgo,if_pos (by rw [hst,q1])]]
  clear hgo hst
  generalize Qn s.1 li=x at hsl q1
  go_enter Tryz.func112,Tryz.ntmps112
  try dsimp only [List.append]
  go_wp2_with (go_at_call 166;refine (Yy _ _ _ t1 _).mono ?_;rintro e w' ⟨rfl,rfl⟩)
  refine (Qat li _ ho w H.out).mono ?_
  rintro e w2 ⟨rfl,c2⟩
  replace H:=Vh (H.out.keep c2)
  replace CW:=Vh (CW.out.trans (Zp c2))
  clear c2
  have rG:=H.out.2.1
  go_wp2_with fail
  refine (JK _ hi w2 H.out).mono ?_
  rintro e w3 ⟨rfl,c2⟩
  replace H:=Vh (H.out.keep c2)
  replace CW:=Vh (CW.out.trans (Zp c2))
  clear c2
  have rG:=H.out.2.1
  go_wp2_with fail
  refine (hsl w3 H.out).mono ?_
  clear hsl
  rintro e w4 ⟨rfl,c4⟩
  replace H:=Vh (H.out.keep c4)
  replace CW:=Vh (CW.out.trans (Zp c4))
  clear c4
  have rG:=H.out.2.1
  go_wp2_with fail
  have cb:=(Chg.refl [] w4).alloc (.cells (slc x) 197 (0,0))
  have rX:(w4.alloc (.cells (slc x) 197 (0,0))).heap[w4.heap.size]? =some (.cells (slc x) 197 (0,0)):=by simp
  have nX:=H.out.new2 (k:=w4.heap.size) (Nat.le_refl _)
  have mX:=H.out.new3 (k:=w4.heap.size) (Nat.le_refl _)
  have uX:=CW.out.size
  replace H:=Vh (H.out.keep cb)
  replace CW:=Vh (CW.out.trans (Zp cb))
  clear cb
  generalize w4.heap.size=pX at rX nX mX uX ⊢
  generalize w4.alloc (.cells (slc x) 197 (0,0))=w5 at rX H CW ⊢
  have rG:=H.out.2.1
  have oX:=old rX
  go_wp2_with fail
  have nG:=H.out.2.2.1
  go_region_held3 (fun w'=>w'.heap[g]? =some (.cells #[.pointer (some ⟨a,0,none⟩)] 126 (0,0))∧w'.heap[pX]? =some (.cells (slc x) 197 (0,0))) (first |exact ⟨rG,rX⟩|exact ⟨c4.keep rG nG,c4.keep rX nX⟩)
   (first
    |(go_at_call 170;refine (Ju (H.out.keep (Chg.drew (Chg.refl [] w5))) hu li 6 x.l x.h).mono ?_;rintro e w4 ⟨rfl,h4,c4⟩))
  all_goals
   replace H:=Vh h4
   replace CW:=Vh (CW.out.trans (Chg.trans (Chg.drew (Chg.refl [a,b] w5)) c4))
   replace rX:=c4.keep rX nX
   clear h4 c4 rG
   have rG:=H.out.2.1
   go_wp2_with fail
   refine (hone_any 2 li _).mono ?_
   rintro e w6 ⟨A,n,rfl,h1,c6⟩
   go_wp2_with fail
   go_ret
   exact RgRet.ms (f:=fun v=>v) H.out CW.out h1 c6
end
section
attribute [local go_sem ↓] YE Yj Qcz Qc0
attribute [local go_sem] YM
theorem RgRet.put {w w0 w1 w2:World} {g a b S N k:Nat} {s:Sta} {f:Value→Value} {A:Option Addr} {ms:List Ms} {n:Nat} (h:RAg w1 g a b S N s) (h1:Told w0 w1 A ms) (hc:Chg [a,b] w w1) (cb:Chg [k] w1 w2) (mk:k∉[g,a,b]) (uk:w.heap.size≤k) (hw:w.heap.size≤w0.heap.size) (ok:k<w0.heap.size):
 RgRet w g a b S N s f ms (.returned (f (.slice A ms.length n))) w2:=
 ⟨A,n,rfl,(h1.keep cb (by simp [ok])).from hw,h.apart cb mk,hc.trans' cb (by simp [uk])⟩
theorem Qab {fn:Func} {p:Tmp} (h:fn.results=#[.cell p 181]) (tmps:Array Value) (w:World) (b:Nat) (u v x:Value) (fr:Nat×Nat)
 (hp:tmps.getD p undef=.pointer (some ⟨b,0,none⟩)) (hb:w.heap[b]? =some (.cells #[u,v,x] 181 fr)):
 (results fn tmps).run Tryz.prog w=.ok (.agg #[u,v,x]) w:=by
 have hp':tmps[p]?.getD undef=.pointer (some ⟨b,0,none⟩):=by simpa using hp
 have:=run_loadVar_row (P:=Tryz.prog) w b 181 181 #[u,v,x] fr _ hb Tryz.underlying181 rfl (by kernel_rfl)
 exact Tz93
theorem hload_any {g a b S N:Nat} {s:Sta} (li k:Int) (w:World) (h:RAg w g a b S N s) (hu:s.2≤1000000000):Calls Tryz.prog 108 #[.pointer (some ⟨g,0,none⟩),.int .i64 li,.int .i64 k] w (RgRet w g a b S N (loadF S N s li k).1 (fun v=>.agg #[.int .u64 (loadF S N s li k).2.1,.bool (loadF S N s li k).2.2.1,v]) (loadF S N s li k).2.2.2):=by
 have H:=Vh h
 have rG:=h.2.1
 have CW:=Vh (Chg.refl [a,b] w)
 clear h
 have hf:=fun W' hW=>XD (g:=g) (a:=a) (b:=b) (S:=S) (N:=N) (s:=s) li W' hW
 cases t1:(isLn li&&isWd k)
 ·rw [show loadF S N s li k=(s,(0,false,[])) by unfold loadF;rw [if_neg (by rw [t1];simp)]]
  go_enter Tryz.func108,Tryz.ntmps108
  try dsimp only [List.append]
  go_wp2_with (go_at_call 166;refine (Yy _ _ _ t1 _).mono ?_;rintro e w' ⟨rfl,rfl⟩)
  refine bodyPost_ret (Qab (by rfl) _ _ (w.heap.size) (.int .u64 0) (.bool false) (.slice none 0 0) (0,0) (by rfl) (by simp;try rfl)) (by rfl) ?_
  exact RgRet.nil (f:=fun v=>.agg #[.int .u64 0,.bool false,v]) (H.out.keep ((Chg.refl [] w).alloc _)) (Zp ((Chg.refl [] w).alloc _))
 have t2:=t1
 rw [Bool.and_eq_true] at t2
 have hl0:0≤li:=by have:=t2.1;simp [isLn] at this;exact this.1
 obtain ⟨K,hK,rfl⟩:∃K:Nat,K<8∧k=K:=by have:=t2.2;simp [isWd] at this;exact ⟨k.toNat,by omega,by omega⟩
 have g1:(K:Int)<8:=by omega
 have g0:(0:Int)≤(K:Int):=by omega
 clear t2
 cases hm:mayR (Qn s.1 li).st
 ·have hno:((Qn s.1 li).st==1)=false∧((Qn s.1 li).st==2)=false∧((Qn s.1 li).st==3)=false∧((Qn s.1 li).st==6)=false:=by
   unfold mayR Xs at hm
   simp at hm ⊢
   omega
  obtain ⟨z1,z2,z3,z6⟩:=hno
  cases q0:((Qn s.1 li).st !=0)
  ·cases hi:Jy s.1
   ·rw [show loadF S N s li K=(s,(0,false,[])) by unfold loadF;rw [if_pos t1,if_neg (by simp [hm]),if_neg (by simp [hi])]]
    generalize Qn s.1 li=x at hf z1 z2 z3 z6 q0
    go_enter Tryz.func108,Tryz.ntmps108
    try dsimp only [List.append]
    go_wp2_with (go_at_call 166;refine (Yy _ _ _ t1 _).mono ?_;rintro e w' ⟨rfl,rfl⟩)
    have cb:=(Chg.refl [] w).alloc (.cells #[.int .u64 0,.bool false,.slice none 0 0] 181)
    have rR:(w.alloc (.cells #[.int .u64 0,.bool false,.slice none 0 0] 181)).heap[w.heap.size]? =some (.cells #[.int .u64 0,.bool false,.slice none 0 0] 181):=by simp
    have nR:=H.out.new2 (k:=w.heap.size) (Nat.le_refl _)
    have mR:=H.out.new3 (k:=w.heap.size) (Nat.le_refl _)
    have uR:=CW.out.size
    replace H:=Vh (H.out.keep cb)
    replace CW:=Vh (CW.out.trans (Zp cb))
    clear cb
    clear uR
    generalize hpR:w.heap.size=pR at rR nR mR ⊢
    have uR:=Nat.le_of_eq hpR
    clear hpR
    generalize w.alloc (.cells #[.int .u64 0,.bool false,.slice none 0 0] 181)=w1 at rR H CW ⊢
    have rG:=H.out.2.1
    have oR:=old rR
    refine (hf w1 H.out).mono ?_
    clear hf
    rintro e w2 ⟨rfl,c2⟩
    replace H:=Vh (H.out.keep c2)
    replace CW:=Vh (CW.out.trans (Zp c2))
    replace rR:=c2.keep rR Vn
    clear c2
    have rG:=H.out.2.1
    go_upto_region 4 with fail
    have cb:=(Chg.refl [] w2).alloc (.cells (slc x) 197 (0,0))
    have rX:(w2.alloc (.cells (slc x) 197 (0,0))).heap[w2.heap.size]? =some (.cells (slc x) 197 (0,0)):=by simp
    have nX:=H.out.new2 (k:=w2.heap.size) (Nat.le_refl _)
    have mX:=H.out.new3 (k:=w2.heap.size) (Nat.le_refl _)
    have uX:=CW.out.size
    replace H:=Vh (H.out.keep cb)
    replace CW:=Vh (CW.out.trans (Zp cb))
    replace rR:=cb.keep rR Vn
    clear cb
    generalize w2.heap.size=pX at rX nX mX uX ⊢
    generalize w2.alloc (.cells (slc x) 197 (0,0))=w3 at rX H CW rR ⊢
    have rG:=H.out.2.1
    have oX:=old rX
    have oR:=old rR
    go_wp2_with fail
    refine (hmiss_no li 4 1 hi w3 H.out).mono ?_
    exact Tz63
   ·rw [show loadF S N s li K=((getF S N s li 4 1).1,(0,false,(getF S N s li 4 1).2)) by unfold loadF;rw [if_pos t1,if_neg (by simp [hm]),if_pos hi]]
    generalize Qn s.1 li=x at hf z1 z2 z3 z6 q0
    go_enter Tryz.func108,Tryz.ntmps108
    try dsimp only [List.append]
    go_wp2_with (go_at_call 166;refine (Yy _ _ _ t1 _).mono ?_;rintro e w' ⟨rfl,rfl⟩)
    have cb:=(Chg.refl [] w).alloc (.cells #[.int .u64 0,.bool false,.slice none 0 0] 181)
    have rR:(w.alloc (.cells #[.int .u64 0,.bool false,.slice none 0 0] 181)).heap[w.heap.size]? =some (.cells #[.int .u64 0,.bool false,.slice none 0 0] 181):=by simp
    have nR:=H.out.new2 (k:=w.heap.size) (Nat.le_refl _)
    have mR:=H.out.new3 (k:=w.heap.size) (Nat.le_refl _)
    have uR:=CW.out.size
    replace H:=Vh (H.out.keep cb)
    replace CW:=Vh (CW.out.trans (Zp cb))
    clear cb
    clear uR
    generalize hpR:w.heap.size=pR at rR nR mR ⊢
    have uR:=Nat.le_of_eq hpR
    clear hpR
    generalize w.alloc (.cells #[.int .u64 0,.bool false,.slice none 0 0] 181)=w1 at rR H CW ⊢
    have rG:=H.out.2.1
    have oR:=old rR
    refine (hf w1 H.out).mono ?_
    clear hf
    rintro e w2 ⟨rfl,c2⟩
    replace H:=Vh (H.out.keep c2)
    replace CW:=Vh (CW.out.trans (Zp c2))
    replace rR:=c2.keep rR Vn
    clear c2
    have rG:=H.out.2.1
    go_upto_region 4 with fail
    have cb:=(Chg.refl [] w2).alloc (.cells (slc x) 197 (0,0))
    have rX:(w2.alloc (.cells (slc x) 197 (0,0))).heap[w2.heap.size]? =some (.cells (slc x) 197 (0,0)):=by simp
    have nX:=H.out.new2 (k:=w2.heap.size) (Nat.le_refl _)
    have mX:=H.out.new3 (k:=w2.heap.size) (Nat.le_refl _)
    have uX:=CW.out.size
    replace H:=Vh (H.out.keep cb)
    replace CW:=Vh (CW.out.trans (Zp cb))
    replace rR:=cb.keep rR Vn
    clear cb
    generalize w2.heap.size=pX at rX nX mX uX ⊢
    generalize w2.alloc (.cells (slc x) 197 (0,0))=w3 at rX H CW rR ⊢
    have rG:=H.out.2.1
    have oX:=old rX
    have oR:=old rR
    go_wp2_with fail
    refine (hmiss_any li 4 1 hi hl0 w3 H.out hu).mono ?_
    exact Tz63
  ·have hi:Jy s.1=false:=by
    cases h:Jy s.1
    ·rfl
    ·exfalso
     rcases Qbe h li with h1|h1
     ·rw [h1] at q0;simp at q0
     ·unfold mayR at hm;rw [h1] at hm;simp at hm
   rw [show loadF S N s li K=(s,(0,false,[])) by unfold loadF;rw [if_pos t1,if_neg (by simp [hm]),if_neg (by simp [hi])]]
   generalize Qn s.1 li=x at hf z1 z2 z3 z6 q0
   go_enter Tryz.func108,Tryz.ntmps108
   try dsimp only [List.append]
   go_wp2_with (go_at_call 166;refine (Yy _ _ _ t1 _).mono ?_;rintro e w' ⟨rfl,rfl⟩)
   have cb:=(Chg.refl [] w).alloc (.cells #[.int .u64 0,.bool false,.slice none 0 0] 181)
   have rR:(w.alloc (.cells #[.int .u64 0,.bool false,.slice none 0 0] 181)).heap[w.heap.size]? =some (.cells #[.int .u64 0,.bool false,.slice none 0 0] 181):=by simp
   have nR:=H.out.new2 (k:=w.heap.size) (Nat.le_refl _)
   have mR:=H.out.new3 (k:=w.heap.size) (Nat.le_refl _)
   have uR:=CW.out.size
   replace H:=Vh (H.out.keep cb)
   replace CW:=Vh (CW.out.trans (Zp cb))
   clear cb
   clear uR
   generalize hpR:w.heap.size=pR at rR nR mR ⊢
   have uR:=Nat.le_of_eq hpR
   clear hpR
   generalize w.alloc (.cells #[.int .u64 0,.bool false,.slice none 0 0] 181)=w1 at rR H CW ⊢
   have rG:=H.out.2.1
   have oR:=old rR
   refine (hf w1 H.out).mono ?_
   clear hf
   rintro e w2 ⟨rfl,c2⟩
   replace H:=Vh (H.out.keep c2)
   replace CW:=Vh (CW.out.trans (Zp c2))
   replace rR:=c2.keep rR Vn
   clear c2
   have rG:=H.out.2.1
   go_upto_region 4 with fail
   have cb:=(Chg.refl [] w2).alloc (.cells (slc x) 197 (0,0))
   have rX:(w2.alloc (.cells (slc x) 197 (0,0))).heap[w2.heap.size]? =some (.cells (slc x) 197 (0,0)):=by simp
   have nX:=H.out.new2 (k:=w2.heap.size) (Nat.le_refl _)
   have mX:=H.out.new3 (k:=w2.heap.size) (Nat.le_refl _)
   have uX:=CW.out.size
   replace H:=Vh (H.out.keep cb)
   replace CW:=Vh (CW.out.trans (Zp cb))
   replace rR:=cb.keep rR Vn
   clear cb
   generalize w2.heap.size=pX at rX nX mX uX ⊢
   generalize w2.alloc (.cells (slc x) 197 (0,0))=w3 at rX H CW rR ⊢
   have rG:=H.out.2.1
   have oX:=old rX
   have oR:=old rR
   go_wp2_with fail
   refine bodyPost_ret (Qab (by rfl) _ _ pR (.int .u64 0) (.bool false) (.slice none 0 0) (0,0) (by rfl) (by simp [rR];try rfl)) (by rfl) ?_
   exact RgRet.put (f:=fun v=>.agg #[.int .u64 0,.bool false,v]) H.out (Told.nil w3 w3) CW.out ((((Chg.refl [pR] w3).setCell _ _ _ (.inl (Vm rfl))).setCell _ _ _ (.inl (Vm rfl))).setCell _ _ _ (.inl (Vm rfl))) mR uR CW.out.size oR
 ·rw [show loadF S N s li K=(Qb4 s li,((Qn s.1 li).l.getD K 0,true,[])) by unfold loadF;rw [if_pos t1,if_pos hm,Int.toNat_natCast]]
  have hy:((Qn s.1 li).st==1)=true∨(((Qn s.1 li).st==1)=false∧((Qn s.1 li).st==2)=true)∨(((Qn s.1 li).st==1)=false∧((Qn s.1 li).st==2)=false∧((Qn s.1 li).st==3)=true)∨(((Qn s.1 li).st==1)=false∧((Qn s.1 li).st==2)=false∧((Qn s.1 li).st==3)=false∧((Qn s.1 li).st==6)=true):=by
   unfold mayR Xs at hm
   simp at hm ⊢
   omega
  clear hm
  generalize Qn s.1 li=x at hf hy
  have hwd:=slc_word x K hK
  rcases hy with z1|⟨z1,z2⟩|⟨z1,z2,z3⟩|⟨z1,z2,z3,z6⟩
  all_goals
   go_enter Tryz.func108,Tryz.ntmps108
   try dsimp only [List.append]
   go_wp2_with (go_at_call 166;refine (Yy _ _ _ t1 _).mono ?_;rintro e w' ⟨rfl,rfl⟩)
   have cb:=(Chg.refl [] w).alloc (.cells #[.int .u64 0,.bool false,.slice none 0 0] 181)
   have rR:(w.alloc (.cells #[.int .u64 0,.bool false,.slice none 0 0] 181)).heap[w.heap.size]? =some (.cells #[.int .u64 0,.bool false,.slice none 0 0] 181):=by simp
   have nR:=H.out.new2 (k:=w.heap.size) (Nat.le_refl _)
   have mR:=H.out.new3 (k:=w.heap.size) (Nat.le_refl _)
   have uR:=CW.out.size
   replace H:=Vh (H.out.keep cb)
   replace CW:=Vh (CW.out.trans (Zp cb))
   clear cb
   clear uR
   generalize hpR:w.heap.size=pR at rR nR mR ⊢
   have uR:=Nat.le_of_eq hpR
   clear hpR
   generalize w.alloc (.cells #[.int .u64 0,.bool false,.slice none 0 0] 181)=w1 at rR H CW ⊢
   have rG:=H.out.2.1
   have oR:=old rR
   refine (hf w1 H.out).mono ?_
   clear hf
   rintro e w2 ⟨rfl,c2⟩
   replace H:=Vh (H.out.keep c2)
   replace CW:=Vh (CW.out.trans (Zp c2))
   replace rR:=c2.keep rR Vn
   clear c2
   have rG:=H.out.2.1
   go_upto_region 4 with fail
   have cb:=(Chg.refl [] w2).alloc (.cells (slc x) 197 (0,0))
   have rX:(w2.alloc (.cells (slc x) 197 (0,0))).heap[w2.heap.size]? =some (.cells (slc x) 197 (0,0)):=by simp
   have nX:=H.out.new2 (k:=w2.heap.size) (Nat.le_refl _)
   have mX:=H.out.new3 (k:=w2.heap.size) (Nat.le_refl _)
   have uX:=CW.out.size
   replace H:=Vh (H.out.keep cb)
   replace CW:=Vh (CW.out.trans (Zp cb))
   replace rR:=cb.keep rR Vn
   clear cb
   generalize w2.heap.size=pX at rX nX mX uX ⊢
   generalize w2.alloc (.cells (slc x) 197 (0,0))=w3 at rX H CW rR ⊢
   have rG:=H.out.2.1
   have oX:=old rX
   have oR:=old rR
   go_wp2_with fail
   refine (htouch_any H.out hu li).mono ?_
   rintro e w5 ⟨rfl,h4,c4⟩
   replace rX:=c4.keep rX nX
   replace rR:=c4.keep rR nR
   have oR5:=old rR
   have oX5:=old rX
   go_wp2_with fail
   refine bodyPost_ret (Qab (by rfl) _ _ pR (.int .u64 (x.l.getD K 0)) (.bool true) (.slice none 0 0) (0,0) (by rfl) (by simp [rR];try rfl)) (by rfl) ?_
   exact RgRet.put (f:=fun v=>.agg #[.int .u64 (x.l.getD K 0),.bool true,v]) h4 (Told.nil w5 w5) (CW.out.trans c4) ((((Chg.refl [pR] w5).setCell _ _ _ (.inl (Vm rfl))).setCell _ _ _ (.inl (Vm rfl))).setCell _ _ _ (.inl (Vm rfl))) mR uR (Nat.le_trans CW.out.size c4.size) oR5
theorem hstore_any {g a b S N:Nat} {s:Sta} (li k v0:Int) (w:World) (h:RAg w g a b S N s) (hu:s.2≤1000000000):Calls Tryz.prog 110 #[.pointer (some ⟨g,0,none⟩),.int .i64 li,.int .i64 k,.int .u64 v0] w (RgRet w g a b S N (storeF S N s li k v0).1 (fun v=>.tuple #[.bool (storeF S N s li k v0).2.1,v]) (storeF S N s li k v0).2.2):=by
 have H:=Vh h
 have rG:=h.2.1
 have CW:=Vh (Chg.refl [a,b] w)
 clear h
 have hf:=fun W' hW=>XD (g:=g) (a:=a) (b:=b) (S:=S) (N:=N) (s:=s) li W' hW
 cases t1:(isLn li&&isWd k)
 ·rw [show storeF S N s li k v0=(s,(false,[])) by unfold storeF;rw [if_neg (by rw [t1];simp)]]
  go_enter Tryz.func110,Tryz.ntmps110
  try dsimp only [List.append]
  go_wp2_with (go_at_call 166;refine (Yy _ _ _ t1 _).mono ?_;rintro e w' ⟨rfl,rfl⟩)
  go_ret2
  exact RgRet.nil (f:=fun v=>.tuple #[.bool false,v]) H.out CW.out
 have t2:=t1
 rw [Bool.and_eq_true] at t2
 obtain ⟨K,hK,rfl⟩:∃K:Nat,K<8∧k=K:=by have:=t2.2;simp [isWd] at this;exact ⟨k.toNat,by omega,by omega⟩
 cases ho:JN s.1 li
 ·rw [show storeF S N s li K v0=((reachF S N s li).1,(false,(reachF S N s li).2)) by unfold storeF;rw [if_pos t1,if_neg (by simp [ho])]]
  go_enter Tryz.func110,Tryz.ntmps110
  try dsimp only [List.append]
  go_wp2_with (go_at_call 166;refine (Yy _ _ _ t1 _).mono ?_;rintro e w' ⟨rfl,rfl⟩)
  refine (Qat li _ ho w H.out).mono ?_
  rintro e w2 ⟨rfl,c2⟩
  replace H:=Vh (H.out.keep c2)
  replace CW:=Vh (CW.out.trans (Zp c2))
  clear c2
  have rG:=H.out.2.1
  go_wp2_with fail
  refine (hreach_any li w2 H.out hu).mono ?_
  rintro e w5 ⟨A,n,rfl,h1,h2,h3⟩
  go_wp2_with fail
  go_ret2
  exact Tz74
 ·have e1:storeF S N s li K v0=(setS S N s li 3 ((Qn s.1 li).l.set K v0) Cz32,(true,[])):=by
   unfold storeF;rw [if_pos t1,if_pos ho];rfl
  rw [e1]
  clear e1 t2
  generalize Qn s.1 li=x at hf
  have hx8:=x.h
  have g1:(K:Int)<8:=by omega
  have g0:(0:Int)≤(K:Int):=by omega
  have hl8:(x.l.set K v0).length=8:=by rw [List.length_set];exact x.h
  have gx:x.l[K]? =some (x.l.getD K 0):=by rw [List.getD_eq_getElem?_getD,List.getElem?_eq_getElem (by omega)];rfl
  have hvs:=vs_set x.l K v0
  go_enter Tryz.func110,Tryz.ntmps110
  try dsimp only [List.append]
  go_wp2_with (go_at_call 166;refine (Yy _ _ _ t1 _).mono ?_;rintro e w' ⟨rfl,rfl⟩)
  refine (Qat li _ ho w H.out).mono ?_
  rintro e w2 ⟨rfl,c2⟩
  replace H:=Vh (H.out.keep c2)
  replace CW:=Vh (CW.out.trans (Zp c2))
  clear c2
  have rG:=H.out.2.1
  go_wp2_with fail
  refine (hf w2 H.out).mono ?_
  clear hf
  rintro e w3 ⟨rfl,c3⟩
  replace H:=Vh (H.out.keep c3)
  replace CW:=Vh (CW.out.trans (Zp c3))
  clear c3
  have rG:=H.out.2.1
  go_upto_region 6 with fail
  have cb:=(Chg.refl [] w3).alloc (.cells (vs (x.l.set K v0)) 36)
  have rL:(w3.alloc (.cells (vs (x.l.set K v0)) 36)).heap[w3.heap.size]? =some (.cells (vs (x.l.set K v0)) 36):=by simp
  have nL:=H.out.new2 (k:=w3.heap.size) (Nat.le_refl _)
  have mL:=H.out.new3 (k:=w3.heap.size) (Nat.le_refl _)
  have uL:=CW.out.size
  replace H:=Vh (H.out.keep cb)
  replace CW:=Vh (CW.out.trans (Zp cb))
  clear cb
  generalize w3.heap.size=pL at rL nL mL uL ⊢
  generalize w3.alloc (.cells (vs (x.l.set K v0)) 36)=w5 at rL H CW ⊢
  have rG:=H.out.2.1
  have oL:=old rL
  have nG:=H.out.2.2.1
  go_region_held3 (fun w'=>w'.heap[g]? =some (.cells #[.pointer (some ⟨a,0,none⟩)] 126 (0,0))∧w'.heap[pL]? =some (.cells (vs (x.l.set K v0)) 36 (0,0))) (first |exact ⟨rG,rL⟩|exact ⟨c4.keep rG nG,c4.keep rL nL⟩)
   (first
    |(go_at_call 170;refine (Ju (H.out.keep (Chg.drew (Chg.refl [] w5))) hu li 3 (x.l.set K v0) hl8).mono ?_;rintro e w4 ⟨rfl,h4,c4⟩))
  all_goals
   replace H:=Vh h4
   replace CW:=Vh (CW.out.trans (Chg.trans (Chg.drew (Chg.refl [a,b] w5)) c4))
   replace rL:=c4.keep rL nL
   clear h4 c4 rG
   have rG:=H.out.2.1
   go_wp2_with fail
   go_ret2
   exact RgRet.nil (f:=fun v=>.tuple #[.bool true,v]) H.out CW.out
theorem hevict_any {g a b S N:Nat} {s:Sta} (li:Int) (w:World) (h:RAg w g a b S N s) (hu:s.2≤1000000000):Calls Tryz.prog 121 #[.pointer (some ⟨g,0,none⟩),.int .i64 li] w (RgRet w g a b S N (evictF S N s li).1 (fun v=>.tuple #[v,.int .i64 (evictF S N s li).2.2]) (evictF S N s li).2.1):=by
 have H:=Vh h
 have rG:=h.2.1
 have CW:=Vh (Chg.refl [a,b] w)
 clear h
 have hf:=fun W' hW=>XD (g:=g) (a:=a) (b:=b) (S:=S) (N:=N) (s:=s) li W' hW
 cases hi:Jy s.1
 ·rw [show evictF S N s li=(s,([],15)) by unfold evictF;rw [if_neg (by simp [hi])]]
  go_enter Tryz.func121,Tryz.ntmps121
  try dsimp only [List.append]
  go_wp2_with fail
  refine (JK _ hi w H.out).mono ?_
  rintro e w2 ⟨rfl,c2⟩
  replace H:=Vh (H.out.keep c2)
  replace CW:=Vh (CW.out.trans (Zp c2))
  clear c2
  have rG:=H.out.2.1
  go_wp2_with fail
  go_ret2
  exact RgRet.nil (f:=fun v=>.tuple #[v,.int .i64 15]) H.out CW.out
 have hid:=Qbe hi li
 cases q1:((Qn s.1 li).st==0)
 ·have hr:Xs (Qn s.1 li).st=true:=by
   rcases hid with h|h
   ·rw [h] at q1;simp at q1
   ·exact h
  have ho:=fun W' hW=>hout_any (g:=g) (a:=a) (b:=b) (S:=S) (N:=N) (s:=s) li hr W' hW hu
  rw [show evictF S N s li=((outF S N s li).1,((outF S N s li).2,0)) by unfold evictF;rw [if_pos hi,Qgh hr];rfl]
  clear hid hr
  generalize Qn s.1 li=x at hf q1
  go_enter Tryz.func121,Tryz.ntmps121
  try dsimp only [List.append]
  go_wp2_with fail
  refine (JK _ hi w H.out).mono ?_
  rintro e w2 ⟨rfl,c2⟩
  replace H:=Vh (H.out.keep c2)
  replace CW:=Vh (CW.out.trans (Zp c2))
  clear c2
  have rG:=H.out.2.1
  go_wp2_with fail
  refine (hf w2 H.out).mono ?_
  clear hf
  rintro e w3 ⟨rfl,c3⟩
  replace H:=Vh (H.out.keep c3)
  replace CW:=Vh (CW.out.trans (Zp c3))
  clear c3
  have rG:=H.out.2.1
  go_wp2_with fail
  refine (ho w3 H.out).mono ?_
  rintro e w5 ⟨A,n,rfl,h1,h2,h3⟩
  go_wp2_with fail
  go_ret2
  exact Tz74
 ·have hr:Xs (Qn s.1 li).st=false:=by
   have:(Qn s.1 li).st=0:=by simpa using q1
   rw [this];rfl
  rw [show evictF S N s li=(s,([],14)) by unfold evictF;rw [if_pos hi,out_no hr];rfl]
  clear hid hr
  generalize Qn s.1 li=x at hf q1
  go_enter Tryz.func121,Tryz.ntmps121
  try dsimp only [List.append]
  go_wp2_with fail
  refine (JK _ hi w H.out).mono ?_
  rintro e w2 ⟨rfl,c2⟩
  replace H:=Vh (H.out.keep c2)
  replace CW:=Vh (CW.out.trans (Zp c2))
  clear c2
  have rG:=H.out.2.1
  go_wp2_with fail
  refine (hf w2 H.out).mono ?_
  clear hf
  rintro e w3 ⟨rfl,c3⟩
  replace H:=Vh (H.out.keep c3)
  replace CW:=Vh (CW.out.trans (Zp c3))
  clear c3
  have rG:=H.out.2.1
  go_wp2_with fail
  go_ret2
  exact RgRet.nil (f:=fun v=>.tuple #[v,.int .i64 14]) H.out CW.out
theorem hnew_ok (S N:Nat) (w:World) (h:YQ S N):Calls Tryz.prog 102 #[.int .i64 S,.int .i64 N] w fun e w'=>∃g a b,e=.returned (.tuple #[.pointer (some ⟨g,0,none⟩),.int .i64 0])∧RAg w' g a b S N (List.replicate (S*N) sltZ,0)∧w.heap.size≤a∧w.heap.size≤b∧w.heap.size≤g∧Chg [] w w':=by
 go_enter Tryz.func102,Tryz.ntmps102
 try dsimp only [List.append]
 go_wp2_with fail
 refine (rnew_ok S N w h).mono ?_
 rintro e w2 ⟨a,b,rfl,ha,hb,hc,hr⟩
 have HR:=Vh hr
 have HC:=Vh hc
 clear hr hc
 go_wp2_with fail
 go_ret2
 have h1:=ZS HR.out.1
 have h2:=ZS HR.out.2.1
 refine ⟨w2.heap.size,a,b,rfl,⟨HR.out.keep ((Chg.refl [] w2).alloc _) (by simp) (by simp),by simp,by simp;omega,Sane.new _,by show (0:Int)≤0;omega⟩,ha,hb,HC.out.size,HC.out.alloc _⟩
end
section
attribute [local go_sem ↓] YE Yj Qcz Qc0
attribute [local go_sem] YM
theorem YG (kd li:Int) (x:Slt) (ke:Bool) (hxl:x.li=li) (w:World):Calls Tryz.prog 223 #[.int .i64 kd,.agg (slc x),.int .i64 li,.bool ke] w (MsTo w [Yf kd x ke]):=by
 have hx8:=x.h
 have q:(x.st==3)=true∨((x.st==3)=false∧(x.st==9)=true)∨((x.st==3)=false∧(x.st==9)=false):=by
  cases (x.st==3)<;>cases (x.st==9)<;>simp
 have yes:x.st=3∨x.st=9→Yf kd x ke=(((ms4 kd li false ke).putDi true).putL x.l x.h):=by intro h;unfold Yf;rw [if_pos h,←hxl];rfl
 have no:(x.st==3)=false→(x.st==9)=false→Yf kd x ke=(ms4 kd li false ke):=by
  intro h1 h2
  unfold Yf
  rw [if_neg (by simp at h1 h2;omega),hxl]
 rcases q with q1|⟨q1,q2⟩|⟨q1,q2⟩
 ·rw [yes (.inl (by simpa using q1))]
  exact Tz105
 ·rw [yes (.inr (by simpa using q2))]
  exact Tz105
 ·rw [no q1 q2]
  clear yes no hxl
  go_enter Tryz.func223,Tryz.ntmps223
  try dsimp only [List.append]
  go_wp2_with fail
  go_ret
  exact MsTo.at (m:=(ms4 kd li false ke)) Cz0 (by simp)
def lsX (S N:Nat) (s:Sta) (li:Int) (x:Slt) (nx:Int):Sta:=if nx=10 then Qcm s li else setS S N s li nx (if nx=1 then x.l else zl8) (by split;exact x.h;rfl)
attribute [local go_sem ↓] YE Yj
set_option maxHeartbeats 4000000 in
theorem hlose_any {g a b S N:Nat} {s:Sta} (li:Int) (x:Slt) (hx:Qn s.1 li=x) (hx0:x.st≠0→x.li=li) (w:World) (h:RAg w g a b S N s) (hu:s.2≤1000000000):Calls Tryz.prog 187 #[.pointer (some ⟨g,0,none⟩),.agg (slc x),.int .i64 li] w (fun e w'=>(tb 12 x.st=0∧RgRet w g a b S N s (fun v=>.tuple #[v,.int .i64 16]) [] e w')∨(tb 12 x.st≠0∧RgRet w g a b S N (lsX S N s li x (tb 12 x.st)) (fun v=>.tuple #[v,.int .i64 0]) [Yf 6 x (tb 12 x.st==1&&12==13)] e w')):=by
 have H:=Vh h
 have rG:=h.2.1
 have CW:=Vh (Chg.refl [a,b] w)
 clear h
 have hsa:0≤x.st∧x.st≤9:=by rw [←hx];exact Qam H.out.sane li
 have hx8:=x.h
 have hst:x.st=0∨x.st=1∨x.st=2∨x.st=3∨x.st=4∨x.st=5∨x.st=6∨x.st=7∨x.st=8∨x.st=9:=by omega
 clear hsa
 rcases hst with hst|hst|hst|hst|hst|hst|hst|hst|hst|hst
 ·skip
  have z:x.st=0:=hst
  have z1:(x.st==1)=false:=by simp [z]
  have z2:(x.st==2)=false:=by simp [z]
  have z3:(x.st==3)=false:=by simp [z]
  have z6:(x.st==6)=false:=by simp [z]
  have z7:(x.st==7)=false:=by simp [z]
  have z9:(x.st==9)=false:=by simp [z]
  have hn:tb 12 x.st=0:=by rw [z];rfl
  clear hst z
  rw [hn]
  refine Calls.mono ?_ (fun _ _ h=>.inl ⟨rfl,h⟩)
  clear hn hx hx0
  go_enter Tryz.func187,Tryz.ntmps187
  exact Tz128
 ·skip
  have z:x.st=1:=hst
  have z1:(x.st==1)=true:=by simp [z]
  exact Tz12
 ·skip
  have z:x.st=2:=hst
  have z1:(x.st==1)=false:=by simp [z]
  have z2:(x.st==2)=true:=by simp [z]
  exact Tz12
 ·skip
  have z:x.st=3:=hst
  have z1:(x.st==1)=false:=by simp [z]
  have z2:(x.st==2)=false:=by simp [z]
  have z3:(x.st==3)=true:=by simp [z]
  exact Tz12
 ·skip
  have z:x.st=4:=hst
  exact Tz26
 ·skip
  have z:x.st=5:=hst
  exact Tz26
 ·skip
  have z:x.st=6:=hst
  have z1:(x.st==1)=false:=by simp [z]
  have z2:(x.st==2)=false:=by simp [z]
  have z3:(x.st==3)=false:=by simp [z]
  have z6:(x.st==6)=true:=by simp [z]
  have hn:tb 12 x.st=5:=by rw [z];rfl
  have h00:x.st≠0:=by omega
  clear hst z
  have hxl:=hx0 h00
  rw [hn]
  refine Calls.mono ?_ (fun _ _ h=>.inr ⟨by omega,h⟩)
  clear hn hx0 h00
  rw [show lsX S N s li x 5=setS S N s li 5 zl8 rfl from rfl]
  clear hx
  go_enter Tryz.func187,Tryz.ntmps187
  try dsimp only [List.append]
  go_upto_region 8 with fail
  have cb:=(Chg.refl [] w).alloc (.cells (slc x) 197 (0,0))
  have rX:(w.alloc (.cells (slc x) 197 (0,0))).heap[w.heap.size]? =some (.cells (slc x) 197 (0,0)):=by simp
  have nX:=H.out.new2 (k:=w.heap.size) (Nat.le_refl _)
  have mX:=H.out.new3 (k:=w.heap.size) (Nat.le_refl _)
  replace H:=Vh (H.out.keep cb)
  replace CW:=Vh (CW.out.trans (Zp cb))
  clear cb
  generalize w.heap.size=pX at rX nX mX ⊢
  generalize w.alloc (.cells (slc x) 197 (0,0))=w1 at rX H CW ⊢
  have rG:=H.out.2.1
  have oX:=old rX
  go_wp2_with fail
  refine (Qbf H.out hu li 5).mono ?_
  rintro e w4 ⟨rfl,h4,c4⟩
  replace H:=Vh h4
  replace CW:=Vh (CW.out.trans c4)
  replace rX:=c4.keep rX nX
  clear h4 c4
  go_wp2_with fail
  refine (YG 6 li x false hxl _).mono ?_
  rintro e w9 ⟨A,n,rfl,h1,c9⟩
  go_wp2_with fail
  go_ret2
  exact RgRet.ms (f:=fun v=>.tuple #[v,.int .i64 0]) H.out CW.out h1 c9
 ·skip
  have z:x.st=7:=hst
  have z1:(x.st==1)=false:=by simp [z]
  have z2:(x.st==2)=false:=by simp [z]
  have z3:(x.st==3)=false:=by simp [z]
  have z6:(x.st==6)=false:=by simp [z]
  have z7:(x.st==7)=true:=by simp [z]
  exact Tz23
 ·skip
  have z:x.st=8:=hst
  exact Tz26
 ·skip
  have z:x.st=9:=hst
  have z1:(x.st==1)=false:=by simp [z]
  have z2:(x.st==2)=false:=by simp [z]
  have z3:(x.st==3)=false:=by simp [z]
  have z6:(x.st==6)=false:=by simp [z]
  have z7:(x.st==7)=false:=by simp [z]
  have z9:(x.st==9)=true:=by simp [z]
  exact Tz23
set_option maxHeartbeats 4000000 in
theorem hshare_any {g a b S N:Nat} {s:Sta} (li:Int) (x:Slt) (hx:Qn s.1 li=x) (hx0:x.st≠0→x.li=li) (w:World) (h:RAg w g a b S N s) (hu:s.2≤1000000000):Calls Tryz.prog 188 #[.pointer (some ⟨g,0,none⟩),.agg (slc x),.int .i64 li] w (fun e w'=>(tb 13 x.st=0∧RgRet w g a b S N s (fun v=>.tuple #[v,.int .i64 16]) [] e w')∨(tb 13 x.st≠0∧RgRet w g a b S N (lsX S N s li x (tb 13 x.st)) (fun v=>.tuple #[v,.int .i64 0]) [Yf 7 x (tb 13 x.st==1&&13==13)] e w')):=by
 have H:=Vh h
 have rG:=h.2.1
 have CW:=Vh (Chg.refl [a,b] w)
 clear h
 have hsa:0≤x.st∧x.st≤9:=by rw [←hx];exact Qam H.out.sane li
 have hx8:=x.h
 have hst:x.st=0∨x.st=1∨x.st=2∨x.st=3∨x.st=4∨x.st=5∨x.st=6∨x.st=7∨x.st=8∨x.st=9:=by omega
 clear hsa
 rcases hst with hst|hst|hst|hst|hst|hst|hst|hst|hst|hst
 ·skip
  have z:x.st=0:=hst
  have z2:(x.st==2)=false:=by simp [z]
  have z3:(x.st==3)=false:=by simp [z]
  have z7:(x.st==7)=false:=by simp [z]
  have z9:(x.st==9)=false:=by simp [z]
  have hn:tb 13 x.st=0:=by rw [z];rfl
  clear hst z
  rw [hn]
  refine Calls.mono ?_ (fun _ _ h=>.inl ⟨rfl,h⟩)
  clear hn hx hx0
  go_enter Tryz.func188,Tryz.ntmps188
  exact Tz128
 ·skip
  have z:x.st=1:=hst
  exact Tz15
 ·skip
  have z:x.st=2:=hst
  have z2:(x.st==2)=true:=by simp [z]
  exact Tz19
 ·skip
  have z:x.st=3:=hst
  have z2:(x.st==2)=false:=by simp [z]
  have z3:(x.st==3)=true:=by simp [z]
  exact Tz19
 ·skip
  have z:x.st=4:=hst
  exact Tz15
 ·skip
  have z:x.st=5:=hst
  exact Tz15
 ·skip
  have z:x.st=6:=hst
  exact Tz15
 ·skip
  have z:x.st=7:=hst
  have z2:(x.st==2)=false:=by simp [z]
  have z3:(x.st==3)=false:=by simp [z]
  have z7:(x.st==7)=true:=by simp [z]
  exact Tz24
 ·skip
  have z:x.st=8:=hst
  exact Tz15
 ·skip
  have z:x.st=9:=hst
  have z2:(x.st==2)=false:=by simp [z]
  have z3:(x.st==3)=false:=by simp [z]
  have z7:(x.st==7)=false:=by simp [z]
  have z9:(x.st==9)=true:=by simp [z]
  exact Tz24
end
end Go.Proofs.YtadeoflkppiflaaGreatDoor
