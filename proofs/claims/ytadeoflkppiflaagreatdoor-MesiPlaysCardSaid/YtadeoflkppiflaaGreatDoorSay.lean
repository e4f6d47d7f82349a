/- Texts of the walk, one behind the other: Rym Rys. No condition. -/
import Derived.Test.YtadeoflkppiflaaGreatDoorSaa
import Derived.Test.YtadeoflkppiflaaGreatDoorSaf
import Derived.Test.YtadeoflkppiflaaGreatDoorSan
import Derived.Test.YtadeoflkppiflaaGreatDoorSao
import Derived.Test.YtadeoflkppiflaaGreatDoorSav
import Derived.Test.YtadeoflkppiflaaGreatDoorSaw
import Derived.Test.YtadeoflkppiflaaGreatDoorSax
import Derived.BigQuiet
import Derived.Deep.Cut
import Derived.Deep.CutBlock
import Derived.Deep.CutRange
import Derived.Deep.DeepCutAuto
import Derived.Deep.QuietTactic
import Derived.Deep.RegionHeld3
import Derived.Deep.RegionWith
namespace Go.Proofs.YtadeoflkppiflaaGreatDoor
open Go.RowKit
set_option linter.unusedVariables false
set_option maxHeartbeats 1000000
set_option maxRecDepth 100000
attribute [local go_sem ↓] QA QQ QH Q8 QS QC Za QN Zs Zh Qm Ql heap_alloc Qo heap_setCell Qb ZF Z4 Z5 Z3 Zc ZB Zk ZI Zv ZM ZK ZN ZL
attribute [local go_sem] Qc Qa Qd Qj Qf Qe Qh Qi Qw ZE QZ Zq QO QG Q6 Q0 Q5 Zi Q9 QM QB QI Zj Q7 Qz QP Qt Qk Qs Qr Qq Qp Qg Zb Ze lit8 QF ZG Zr Zt ZC Zd Zy ZH Zz Qv ZA Zl Zm QE QD QR ZO
attribute [local simp ↓] Qm Ql heap_alloc Qo heap_setCell Qb
attribute [local simp] Qc Qa Qd Qj Qf Qe Qh Qi Qw QB Qk Qs Qr Qq Qp Qg QF Qv QE QD QR QI
attribute [local go_sem ↓] XP XQ XO XN XS XR XM XZ
attribute [local go_sem] Xi XV Xh ZR ZT QL Xp ZZ X3 Zw QW QV QU QY QX QT QK QJ Zg Zf Xm ZW
attribute [local simp] QL Zf QW QV QU QY QX QT QK QJ Zg
attribute [local go_sem ↓] Xo ZV Xn ZU Z0
attribute [local go_sem] Xk Xj ZY Xl Qx Qy Z6
attribute [local simp] Z0 Qx Qy QI Zw
section
def didc (d:MDid):Array Value:=(Value.int .u64 d.v::Value.bool d.hit::(Ms.enc d.m++[Value.int .i64 d.e])).toArray
theorem Zu (d:MDid):(didc d).size=15:=by simp [didc,Ms.len]
theorem XJ {fn:Func} {p:Tmp} (h:fn.results=#[.cell p 44]) (tmps:Array Value) (w:World) (b:Nat) (d:MDid) (fr:Nat×Nat)
 (hp:tmps.getD p undef=.pointer (some ⟨b,0,none⟩)) (hb:w.heap[b]? =some (.cells (didc d) 44 fr)):
 (results fn tmps).run Tryz.prog w=.ok (.agg (didc d)) w:=by
 have hp':tmps[p]?.getD undef=.pointer (some ⟨b,0,none⟩):=by simpa using hp
 have:=run_loadVar_row (P:=Tryz.prog) w b 44 44 (didc d) fr _ hb Tryz.underlying44 rfl (by rw [Zu];kernel_rfl)
 exact Tz93
theorem RMTS.wrap {W w w1 w5 w6:World} {c:Cg} {sy:Nat} {F:List Nat} {S:Mst} (hW:W.heap.size≤w.heap.size) (hF:∀k∈F,k<w.heap.size) (hc:Chg [] w w1) (h:RMTS W w1 c sy F S w5) (l:List Nat) (hl:∀b∈l,w.heap.size≤b∧(b<w1.heap.size∨w5.heap.size≤b)) (hc2:Chg l w5 w6):RMTS W w c sy F S w6:=by
 exact Tz59
attribute [local go_sem ↓] Qgn mstc_0 mstc_1 mstc_2 mstc_3 mstc_4
attribute [local go_sem] Qf2 Qd4
theorem did_fold (a e:Int) (h:Bool):(#[.int .u64 a,.bool h,.int .i64 0,.int .i64 0,.bool false,.bool false,.int .u64 0,.int .u64 0,.int .u64 0,.int .u64 0,.int .u64 0,.int .u64 0,.int .u64 0,.int .u64 0,.int .i64 e]:Array Value)=didc ⟨a,h,msZ,e⟩:=rfl
theorem wideDid:Wide Tryz.prog 44 15:=⟨⟨_,Tryz.underlying44,by rfl⟩,by kernel_rfl⟩
theorem loadDid (x:Value):Instr.loadAt 44 x=Qc8 44 15 x:=rfl
theorem storeDid (x y:Value):Instr.storeAt 44 x y=JW 44 15 x y:=rfl
theorem did_s0 (a b e:Int) (h:Bool) (m:Ms):(didc ⟨a,h,m,e⟩).setIfInBounds 0 (.int .u64 b)=didc ⟨b,h,m,e⟩:=by simp [didc]
theorem did_s1 (a e:Int) (h b:Bool) (m:Ms):(didc ⟨a,h,m,e⟩).setIfInBounds 1 (.bool b)=didc ⟨a,b,m,e⟩:=by simp [didc]
theorem did_s14 (a e b:Int) (h:Bool) (m:Ms):(didc ⟨a,h,m,e⟩).setIfInBounds 14 (.int .i64 b)=didc ⟨a,h,m,b⟩:=by
 have:(Ms.enc m).length=12:=Ms.len m
 simp [didc,this]
theorem did_one (d:MDid):Qa1 (didc d):=Qt _ (List.all_eq_true.2 (by
 intro v hv
 simp only [List.mem_cons,List.mem_append,Vn,or_false] at hv
 rcases hv with rfl|rfl|hv|rfl
 ·rfl
 ·rfl
 ·exact Ms.one _ v hv
 ·rfl))
attribute [local go_sem ↓] did_fold loadDid storeDid did_s0 did_s1 did_s14
theorem did_foldM (a e:Int) (h:Bool) (m0 m:Ms):Array.foldl (fun cs y=>cs.setIfInBounds (2+y.snd) y.fst) (didc ⟨a,h,m0,e⟩) (msc m).zipIdx 0 12=didc ⟨a,h,m,e⟩:=by
 rw [J1 _ _ _ _ (Qv m) (by rw [Zu];omega)]
 have h0:(Ms.enc m0).length=12:=Ms.len m0
 have h1:(Ms.enc m).length=12:=Ms.len m
 simp [didc,Z9,msc,h0,h1]
attribute [local go_sem] wideDid Zu did_one did_foldM
attribute [local simp] did_foldM
attribute [local simp] Zu did_s0 did_s1 did_s14
attribute [local simp] did_fold
theorem wants_0 (x:MStp) (hk:x.kd=0) {W w:World} {c:Cg} {sy:Nat} {F:List Nat} {S:Mst} (hW:W.heap.size≤w.heap.size) (hF:∀k∈F,k<w.heap.size) (dv:Int) (dh:Bool) (HC:∀w1,Chg [] w w1→Calls Tryz.prog 52 #[.pointer (some ⟨sy,0,none⟩),.int .i64 x.co,.int .i64 x.li,.int .i64 x.wd] w1 fun e w'=>e=.returned (.agg #[.int .u64 dv,.bool dh])∧RMTS W w1 c sy F S w'):
 Calls Tryz.prog 15 #[.pointer (some ⟨sy,0,none⟩),.agg (mstc x)] w fun e w'=>e=.returned (.agg (didc ⟨dv,dh,msZ,0⟩))∧RMTS W w c sy F S w':=by
 have s0:(x.kd==0)=true:=by simp;omega
 have HH:=Vh HC
 have HF:=Vh hF
 have HW:=Vh hW
 clear hk HC hF hW
 go_enter Tryz.func15,Tryz.ntmps15
 try dsimp only [List.append]
 go_wp2_with fail
 have r0:((w.alloc (.cells (mstc x) 42)).alloc (.cells (didc ⟨0,false,msZ,0⟩) 44)).heap[w.heap.size+1]? =some (.cells (didc ⟨0,false,msZ,0⟩) 44 (0,0)):=by simp
 have C2:=Vh (((Chg.refl [] w).alloc (.cells (mstc x) 42)).alloc (.cells (didc ⟨0,false,msZ,0⟩) 44))
 have Z2:=Vh (show ((w.alloc (.cells (mstc x) 42)).alloc (.cells (didc ⟨0,false,msZ,0⟩) 44)).heap.size=w.heap.size+2 by simp)
 refine (HH.out _ C2.out).mono ?_
 rintro e w5 ⟨rfl,m5⟩
 have M5:=Vh m5
 replace r0:=m5.choose_spec.2.1.keep r0 (fun h=>by have:=HF.out _ h;omega)
 have o0:=old r0
 generalize hb:w.heap.size+1=b at r0 o0 ⊢
 have HB:=Vh hb
 clear hb m5
 go_wp2_with fail
 have r9:(w5.alloc (.cells #[.int .u64 dv,.bool dh] 110)).heap[b]? =some (.cells (didc ⟨0,false,msZ,0⟩) 44 (0,0)):=((Chg.refl [] w5).alloc _).keep r0 Vn
 clear r0
 have r0:=r9
 refine bodyPost_ret (v:=.agg (didc ⟨dv,dh,msZ,0⟩)) ?_ (by rfl) ?_
 ·exact XJ (by rfl) _ _ b ⟨dv,dh,msZ,0⟩ (0,0) (by rfl) Cz8
 ·refine ⟨rfl,RMTS.wrap HW.out HF.out C2.out M5.out [b] (fun q hq=>?_) (((Chg.refl [b] w5).alloc _).putRow _ _ _ (.inl (by simp)))⟩
  exact Tz58
theorem wants_1 (x:MStp) (hk:x.kd=1) {W w:World} {c:Cg} {sy:Nat} {F:List Nat} {S:Mst} (hW:W.heap.size≤w.heap.size) (hF:∀k∈F,k<w.heap.size) (dh:Bool) (HC:∀w1,Chg [] w w1→Calls Tryz.prog 53 #[.pointer (some ⟨sy,0,none⟩),.int .i64 x.co,.int .i64 x.li,.int .i64 x.wd,.int .u64 x.v] w1 fun e w'=>e=.returned (.bool dh)∧RMTS W w1 c sy F S w'):
 Calls Tryz.prog 15 #[.pointer (some ⟨sy,0,none⟩),.agg (mstc x)] w fun e w'=>e=.returned (.agg (didc ⟨0,dh,msZ,0⟩))∧RMTS W w c sy F S w':=by
 have s0:(x.kd==0)=false:=by simp;omega
 have s1:(x.kd==1)=true:=by simp;omega
 exact Tz25
theorem wants_2 (x:MStp) (hk:x.kd=2) {W w:World} {c:Cg} {sy:Nat} {F:List Nat} {S:Mst} (hW:W.heap.size≤w.heap.size) (hF:∀k∈F,k<w.heap.size) (dh:Bool) (HC:∀w1,Chg [] w w1→Calls Tryz.prog 54 #[.pointer (some ⟨sy,0,none⟩),.int .i64 x.co,.int .i64 x.li] w1 fun e w'=>e=.returned (.bool dh)∧RMTS W w1 c sy F S w'):
 Calls Tryz.prog 15 #[.pointer (some ⟨sy,0,none⟩),.agg (mstc x)] w fun e w'=>e=.returned (.agg (didc ⟨0,dh,msZ,0⟩))∧RMTS W w c sy F S w':=by
 have s0:(x.kd==0)=false:=by simp;omega
 have s1:(x.kd==1)=false:=by simp;omega
 have s2:(x.kd==2)=true:=by simp;omega
 exact Tz25
theorem wants_3 (x:MStp) (hk:x.kd=3) (hv:0≤x.v) {W w:World} {c:Cg} {sy:Nat} {F:List Nat} {S:Mst} (hW:W.heap.size≤w.heap.size) (hF:∀k∈F,k<w.heap.size) (de:Int) (HC:∀w1,Chg [] w w1→Calls Tryz.prog 55 #[.pointer (some ⟨sy,0,none⟩),.int .i64 x.co,.int .i64 x.li,.int .i64 (4+x.v % 2)] w1 fun e w'=>e=.returned (.int .i64 de)∧RMTS W w1 c sy F S w'):
 Calls Tryz.prog 15 #[.pointer (some ⟨sy,0,none⟩),.agg (mstc x)] w fun e w'=>e=.returned (.agg (didc ⟨0,false,msZ,de⟩))∧RMTS W w c sy F S w':=by
 have s0:(x.kd==0)=false:=by simp;omega
 have s1:(x.kd==1)=false:=by simp;omega
 have s2:(x.kd==2)=false:=by simp;omega
 have s3:(x.kd==3)=true:=by simp;omega
 exact Tz1
theorem wants_4 (x:MStp) (hk:x.kd=4) {W w:World} {c:Cg} {sy:Nat} {F:List Nat} {S:Mst} (hW:W.heap.size≤w.heap.size) (hF:∀k∈F,k<w.heap.size) (de:Int) (HC:∀w1,Chg [] w w1→Calls Tryz.prog 56 #[.pointer (some ⟨sy,0,none⟩),.int .i64 x.co] w1 fun e w'=>e=.returned (.int .i64 de)∧RMTS W w1 c sy F S w'):
 Calls Tryz.prog 15 #[.pointer (some ⟨sy,0,none⟩),.agg (mstc x)] w fun e w'=>e=.returned (.agg (didc ⟨0,false,msZ,de⟩))∧RMTS W w c sy F S w':=by
 have s0:(x.kd==0)=false:=by simp;omega
 have s1:(x.kd==1)=false:=by simp;omega
 have s2:(x.kd==2)=false:=by simp;omega
 have s3:(x.kd==3)=false:=by simp;omega
 have s4:(x.kd==4)=true:=by simp;omega
 exact Tz1
theorem wants_5 (x:MStp) (hk:x.kd=5) {W w:World} {c:Cg} {sy:Nat} {F:List Nat} {S:Mst} (hW:W.heap.size≤w.heap.size) (hF:∀k∈F,k<w.heap.size) (de:Int) (HC:∀w1,Chg [] w w1→Calls Tryz.prog 57 #[.pointer (some ⟨sy,0,none⟩),.int .i64 x.co] w1 fun e w'=>e=.returned (.int .i64 de)∧RMTS W w1 c sy F S w'):
 Calls Tryz.prog 15 #[.pointer (some ⟨sy,0,none⟩),.agg (mstc x)] w fun e w'=>e=.returned (.agg (didc ⟨0,false,msZ,de⟩))∧RMTS W w c sy F S w':=by
 have s0:(x.kd==0)=false:=by simp;omega
 have s1:(x.kd==1)=false:=by simp;omega
 have s2:(x.kd==2)=false:=by simp;omega
 have s3:(x.kd==3)=false:=by simp;omega
 have s4:(x.kd==4)=false:=by simp;omega
 have s5:(x.kd==5)=true:=by simp;omega
 exact Tz1
theorem wants_6 (x:MStp) (hk:x.kd=6) {W w:World} {c:Cg} {sy:Nat} {F:List Nat} {S:Mst} (hW:W.heap.size≤w.heap.size) (hF:∀k∈F,k<w.heap.size) (dm:Ms) (de:Int) (HC:∀w1,Chg [] w w1→Calls Tryz.prog 58 #[.pointer (some ⟨sy,0,none⟩),.int .i64 x.co] w1 fun e w'=>e=.returned (.tuple #[.agg (msc dm),.int .i64 de])∧RMTS W w1 c sy F S w'):
 Calls Tryz.prog 15 #[.pointer (some ⟨sy,0,none⟩),.agg (mstc x)] w fun e w'=>e=.returned (.agg (didc ⟨0,false,dm,de⟩))∧RMTS W w c sy F S w':=by
 have s0:(x.kd==0)=false:=by simp;omega
 have s1:(x.kd==1)=false:=by simp;omega
 have s2:(x.kd==2)=false:=by simp;omega
 have s3:(x.kd==3)=false:=by simp;omega
 have s4:(x.kd==4)=false:=by simp;omega
 have s5:(x.kd==5)=false:=by simp;omega
 have s6:(x.kd==6)=true:=by simp;omega
 have HH:=Vh HC
 have HF:=Vh hF
 have HW:=Vh hW
 clear hk HC hF hW
 go_enter Tryz.func15,Tryz.ntmps15
 try dsimp only [List.append]
 go_wp2_with fail
 have r0:((w.alloc (.cells (mstc x) 42)).alloc (.cells (didc ⟨0,false,msZ,0⟩) 44)).heap[w.heap.size+1]? =some (.cells (didc ⟨0,false,msZ,0⟩) 44 (0,0)):=by simp
 have C2:=Vh (((Chg.refl [] w).alloc (.cells (mstc x) 42)).alloc (.cells (didc ⟨0,false,msZ,0⟩) 44))
 have Z2:=Vh (show ((w.alloc (.cells (mstc x) 42)).alloc (.cells (didc ⟨0,false,msZ,0⟩) 44)).heap.size=w.heap.size+2 by simp)
 refine (HH.out _ C2.out).mono ?_
 rintro e w5 ⟨rfl,m5⟩
 have M5:=Vh m5
 replace r0:=m5.choose_spec.2.1.keep r0 (fun h=>by have:=HF.out _ h;omega)
 have o0:=old r0
 generalize hb:w.heap.size+1=b at r0 o0 ⊢
 have HB:=Vh hb
 clear hb m5
 go_wp2_with fail
 have r9:(w5.alloc (.cells (msc dm) 38)).heap[b]? =some (.cells (didc ⟨0,false,msZ,0⟩) 44 (0,0)):=((Chg.refl [] w5).alloc _).keep r0 Vn
 clear r0
 have r0:=r9
 refine bodyPost_ret (v:=.agg (didc ⟨0,false,dm,de⟩)) ?_ (by rfl) ?_
 ·exact XJ (by rfl) _ _ b ⟨0,false,dm,de⟩ (0,0) (by rfl) Cz8
 ·refine ⟨rfl,RMTS.wrap HW.out HF.out C2.out M5.out [b] (fun q hq=>?_) (((Chg.refl [b] w5).alloc _).putRow _ _ _ (.inl (by simp)))⟩
  exact Tz58
theorem wants_7 (x:MStp) (hk:x.kd=7) {W w:World} {c:Cg} {sy:Nat} {F:List Nat} {S:Mst} (hW:W.heap.size≤w.heap.size) (hF:∀k∈F,k<w.heap.size) (de:Int) (HC:∀w1,Chg [] w w1→Calls Tryz.prog 59 #[.pointer (some ⟨sy,0,none⟩),.int .i64 x.li] w1 fun e w'=>e=.returned (.int .i64 de)∧RMTS W w1 c sy F S w'):
 Calls Tryz.prog 15 #[.pointer (some ⟨sy,0,none⟩),.agg (mstc x)] w fun e w'=>e=.returned (.agg (didc ⟨0,false,msZ,de⟩))∧RMTS W w c sy F S w':=by
 have s0:(x.kd==0)=false:=by simp;omega
 have s1:(x.kd==1)=false:=by simp;omega
 have s2:(x.kd==2)=false:=by simp;omega
 have s3:(x.kd==3)=false:=by simp;omega
 have s4:(x.kd==4)=false:=by simp;omega
 have s5:(x.kd==5)=false:=by simp;omega
 have s6:(x.kd==6)=false:=by simp;omega
 have s7:(x.kd==7)=true:=by simp;omega
 exact Tz1
theorem wants_8 (x:MStp) (hk:x.kd=8) {W w:World} {c:Cg} {sy:Nat} {F:List Nat} {S:Mst} (hW:W.heap.size≤w.heap.size) (hF:∀k∈F,k<w.heap.size) (de:Int) (HC:∀w1,Chg [] w w1→Calls Tryz.prog 60 #[.pointer (some ⟨sy,0,none⟩),.int .i64 x.co,.int .i64 x.li] w1 fun e w'=>e=.returned (.int .i64 de)∧RMTS W w1 c sy F S w'):
 Calls Tryz.prog 15 #[.pointer (some ⟨sy,0,none⟩),.agg (mstc x)] w fun e w'=>e=.returned (.agg (didc ⟨0,false,msZ,de⟩))∧RMTS W w c sy F S w':=by
 have s0:(x.kd==0)=false:=by simp;omega
 have s1:(x.kd==1)=false:=by simp;omega
 have s2:(x.kd==2)=false:=by simp;omega
 have s3:(x.kd==3)=false:=by simp;omega
 have s4:(x.kd==4)=false:=by simp;omega
 have s5:(x.kd==5)=false:=by simp;omega
 have s6:(x.kd==6)=false:=by simp;omega
 have s7:(x.kd==7)=false:=by simp;omega
 have s8:(x.kd==8)=true:=by simp;omega
 exact Tz1
theorem wants_9 (x:MStp) (hk:x.kd=9) {W w:World} {c:Cg} {sy:Nat} {F:List Nat} {S:Mst} (hW:W.heap.size≤w.heap.size) (hF:∀k∈F,k<w.heap.size) (de:Int) (HC:∀w1,Chg [] w w1→Calls Tryz.prog 61 #[.pointer (some ⟨sy,0,none⟩),.int .i64 x.li] w1 fun e w'=>e=.returned (.int .i64 de)∧RMTS W w1 c sy F S w'):
 Calls Tryz.prog 15 #[.pointer (some ⟨sy,0,none⟩),.agg (mstc x)] w fun e w'=>e=.returned (.agg (didc ⟨0,false,msZ,de⟩))∧RMTS W w c sy F S w':=by
 have s0:(x.kd==0)=false:=by simp;omega
 have s1:(x.kd==1)=false:=by simp;omega
 have s2:(x.kd==2)=false:=by simp;omega
 have s3:(x.kd==3)=false:=by simp;omega
 have s4:(x.kd==4)=false:=by simp;omega
 have s5:(x.kd==5)=false:=by simp;omega
 have s6:(x.kd==6)=false:=by simp;omega
 have s7:(x.kd==7)=false:=by simp;omega
 have s8:(x.kd==8)=false:=by simp;omega
 have s9:(x.kd==9)=true:=by simp;omega
 exact Tz1
theorem wants_10 (x:MStp) (hk:x.kd=10) {W w:World} {c:Cg} {sy:Nat} {F:List Nat} {S:Mst} (hW:W.heap.size≤w.heap.size) (hF:∀k∈F,k<w.heap.size) (de:Int) (HC:∀w1,Chg [] w w1→Calls Tryz.prog 62 #[.pointer (some ⟨sy,0,none⟩),.int .i64 x.li] w1 fun e w'=>e=.returned (.int .i64 de)∧RMTS W w1 c sy F S w'):
 Calls Tryz.prog 15 #[.pointer (some ⟨sy,0,none⟩),.agg (mstc x)] w fun e w'=>e=.returned (.agg (didc ⟨0,false,msZ,de⟩))∧RMTS W w c sy F S w':=by
 have s0:(x.kd==0)=false:=by simp;omega
 have s1:(x.kd==1)=false:=by simp;omega
 have s2:(x.kd==2)=false:=by simp;omega
 have s3:(x.kd==3)=false:=by simp;omega
 have s4:(x.kd==4)=false:=by simp;omega
 have s5:(x.kd==5)=false:=by simp;omega
 have s6:(x.kd==6)=false:=by simp;omega
 have s7:(x.kd==7)=false:=by simp;omega
 have s8:(x.kd==8)=false:=by simp;omega
 have s9:(x.kd==9)=false:=by simp;omega
 have s10:(x.kd==10)=true:=by simp;omega
 exact Tz1
theorem wants_11 (x:MStp) (hk:x.kd=11) {W w:World} {c:Cg} {sy:Nat} {F:List Nat} {S:Mst} (hW:W.heap.size≤w.heap.size) (hF:∀k∈F,k<w.heap.size) (HC:∀w1,Chg [] w w1→Calls Tryz.prog 63 #[.pointer (some ⟨sy,0,none⟩)] w1 fun e w'=>e=.returned (.tuple #[])∧RMTS W w1 c sy F S w'):
 Calls Tryz.prog 15 #[.pointer (some ⟨sy,0,none⟩),.agg (mstc x)] w fun e w'=>e=.returned (.agg (didc ⟨0,false,msZ,0⟩))∧RMTS W w c sy F S w':=by
 have s0:(x.kd==0)=false:=by simp;omega
 have s1:(x.kd==1)=false:=by simp;omega
 have s2:(x.kd==2)=false:=by simp;omega
 have s3:(x.kd==3)=false:=by simp;omega
 have s4:(x.kd==4)=false:=by simp;omega
 have s5:(x.kd==5)=false:=by simp;omega
 have s6:(x.kd==6)=false:=by simp;omega
 have s7:(x.kd==7)=false:=by simp;omega
 have s8:(x.kd==8)=false:=by simp;omega
 have s9:(x.kd==9)=false:=by simp;omega
 have s10:(x.kd==10)=false:=by simp;omega
 have s11:(x.kd==11)=true:=by simp;omega
 have HH:=Vh HC
 have HF:=Vh hF
 have HW:=Vh hW
 clear hk HC hF hW
 go_enter Tryz.func15,Tryz.ntmps15
 try dsimp only [List.append]
 go_wp2_with fail
 have r0:((w.alloc (.cells (mstc x) 42)).alloc (.cells (didc ⟨0,false,msZ,0⟩) 44)).heap[w.heap.size+1]? =some (.cells (didc ⟨0,false,msZ,0⟩) 44 (0,0)):=by simp
 have C2:=Vh (((Chg.refl [] w).alloc (.cells (mstc x) 42)).alloc (.cells (didc ⟨0,false,msZ,0⟩) 44))
 have Z2:=Vh (show ((w.alloc (.cells (mstc x) 42)).alloc (.cells (didc ⟨0,false,msZ,0⟩) 44)).heap.size=w.heap.size+2 by simp)
 refine (HH.out _ C2.out).mono ?_
 rintro e w5 ⟨rfl,m5⟩
 have M5:=Vh m5
 replace r0:=m5.choose_spec.2.1.keep r0 (fun h=>by have:=HF.out _ h;omega)
 have o0:=old r0
 generalize hb:w.heap.size+1=b at r0 o0 ⊢
 have HB:=Vh hb
 clear hb m5
 go_wp2_with fail
 refine bodyPost_ret (v:=.agg (didc ⟨0,false,msZ,0⟩)) ?_ (by rfl) ?_
 ·exact XJ (by rfl) _ _ b ⟨0,false,msZ,0⟩ (0,0) (by rfl) (by rw [Qb _ _ _ _ _ (by rw [r0,Qd,Zu];rfl),if_pos rfl,r0];exact Qe _ _ _ _ (by rw [Zu]))
 ·refine ⟨rfl,RMTS.wrap HW.out HF.out C2.out M5.out [b] (fun q hq=>?_) ((Chg.refl [b] w5).putRow _ _ _ (.inl (by simp)))⟩
  exact Tz58
theorem wants_12 (x:MStp) (hk:(x.kd<0∨11<x.kd)) {W w:World} {c:Cg} {sy:Nat} {F:List Nat} {S:Mst} (hW:W.heap.size≤w.heap.size) (hF:∀k∈F,k<w.heap.size) (HC:∀w1,Chg [] w w1→RMTS W w1 c sy F S w1):
 Calls Tryz.prog 15 #[.pointer (some ⟨sy,0,none⟩),.agg (mstc x)] w fun e w'=>e=.returned (.agg (didc ⟨0,false,msZ,0⟩))∧RMTS W w c sy F S w':=by
 have s0:(x.kd==0)=false:=by simp;omega
 have s1:(x.kd==1)=false:=by simp;omega
 have s2:(x.kd==2)=false:=by simp;omega
 have s3:(x.kd==3)=false:=by simp;omega
 have s4:(x.kd==4)=false:=by simp;omega
 have s5:(x.kd==5)=false:=by simp;omega
 have s6:(x.kd==6)=false:=by simp;omega
 have s7:(x.kd==7)=false:=by simp;omega
 have s8:(x.kd==8)=false:=by simp;omega
 have s9:(x.kd==9)=false:=by simp;omega
 have s10:(x.kd==10)=false:=by simp;omega
 have s11:(x.kd==11)=false:=by simp;omega
 have HH:=Vh HC
 have HF:=Vh hF
 have HW:=Vh hW
 clear hk HC hF hW
 go_enter Tryz.func15,Tryz.ntmps15
 try dsimp only [List.append]
 go_wp2_with fail
 have C2:=Vh (((Chg.refl [] w).alloc (.cells (mstc x) 42)).alloc (.cells (didc ⟨0,false,msZ,0⟩) 44))
 have r0:((w.alloc (.cells (mstc x) 42)).alloc (.cells (didc ⟨0,false,msZ,0⟩) 44)).heap[w.heap.size+1]? =some (.cells (didc ⟨0,false,msZ,0⟩) 44 (0,0)):=by simp
 refine bodyPost_ret (v:=.agg (didc ⟨0,false,msZ,0⟩)) ?_ (by rfl) ?_
 ·exact XJ (by rfl) _ _ (w.heap.size+1) ⟨0,false,msZ,0⟩ (0,0) (by rfl) (by first |exact r0|(rw [Qb _ _ _ _ _ (by rw [r0,Qd,Zu];rfl),if_pos rfl,r0];exact Qe _ _ _ _ (by rw [Zu]))|simp [*])
 ·refine ⟨rfl,RMTS.wrap HW.out HF.out (w1:=w) (Chg.refl _ _) (HH.out w (Chg.refl _ _)) [] (fun q hq=>by cases hq) (by first |exact C2.out|exact C2.out.putRow _ _ _ (.inr (by omega)))⟩
theorem Qao (d:MDid):didc ⟨d.v,d.hit,d.m,d.e⟩=didc d:=rfl
theorem wants_any {W w:World} {c:Cg} {sy n:Nat} {F:List Nat} {S:Mst} {cur:Nat→List Int} (hm:RMS W w c sy F S) (hI:Inv c n S cur) (hn:n≤900) (hT:Tabs W) (x:MStp) (hv:0≤x.v) (hfail:∀w1,Chg [] w w1→Calls Tryz.prog 63 #[.pointer (some ⟨sy,0,none⟩)] w1 fun e w'=>e=.returned (.tuple #[])∧RMTS W w1 c sy F (failM c S) w'):
 Calls Tryz.prog 15 #[.pointer (some ⟨sy,0,none⟩),.agg (mstc x)] w fun e w'=>e=.returned (.agg (didc (stepM c S x.kd x.co x.li x.wd x.v).2))∧RMTS W w c sy F (stepM c S x.kd x.co x.li x.wd x.v).1 w':=by
 have hW:W.heap.size≤w.heap.size:=(RMS.chg hm).size
 have hF:=RMS.old hm
 have hk:∀w1,Chg [] w w1→RMS W w1 c sy F S:=fun w1 hc=>RMS.keepL hm hc (by simp) (by simp)
 unfold stepM
 by_cases h0:x.kd=0
 ·rw [if_pos h0]
  have:=wants_0 x h0 hW hF (loadM c S x.co x.li x.wd).2.v (loadM c S x.co x.li x.wd).2.hit (fun w1 hc=>rload9 (hk w1 hc) hI hn hT x.co x.li x.wd)
  rw [←Qao]
  rw [(Qd9 c S x.co x.li x.wd).1,(Qd9 c S x.co x.li x.wd).2]
  exact this
 rw [if_neg h0]
 by_cases h1:x.kd=1
 ·rw [if_pos h1]
  have:=wants_1 x h1 hW hF (storeM c S x.co x.li x.wd x.v).2.hit (fun w1 hc=>rstore9 (hk w1 hc) hI hn hT x.co x.li x.wd x.v)
  rw [←Qao]
  obtain ⟨e1,e2,e3⟩:=storeM_did c S x.co x.li x.wd x.v
  rw [e1,e2,e3]
  exact this
 rw [if_neg h1]
 by_cases h2:x.kd=2
 ·rw [if_pos h2]
  have:=wants_2 x h2 hW hF (reachM c S x.co x.li).2.hit (fun w1 hc=>rreach9 (hk w1 hc) hI hn hT x.co x.li)
  rw [←Qao]
  obtain ⟨e1,e2,e3⟩:=reachM_did c S x.co x.li
  rw [e1,e2,e3]
  exact this
 rw [if_neg h2]
 by_cases h3:x.kd=3
 ·rw [if_pos h3]
  have:=wants_3 x h3 hv hW hF (flushM c S x.co x.li (4+x.v % 2)).2.e (fun w1 hc=>rflush9 (hk w1 hc) hI hn hT x.co x.li (4+x.v % 2) (by omega))
  rw [←Qao]
  obtain ⟨e1,e2,e3⟩:=flushM_did c S x.co x.li (4+x.v % 2)
  rw [e1,e2,e3]
  exact this
 rw [if_neg h3]
 by_cases h4:x.kd=4
 ·rw [if_pos h4]
  have:=wants_4 x h4 hW hF (upM c S x.co).2.e (fun w1 hc=>rup9 (hk w1 hc) hI hn hT x.co)
  rw [←Qao]
  obtain ⟨e1,e2,e3⟩:=upM_did c S x.co
  rw [e1,e2,e3]
  exact this
 rw [if_neg h4]
 by_cases h5:x.kd=5
 ·rw [if_pos h5]
  have:=wants_5 x h5 hW hF (answerM c S x.co).2.e (fun w1 hc=>ranswer9 (hk w1 hc) hI hn hT x.co)
  rw [←Qao]
  obtain ⟨e1,e2,e3⟩:=Qg9 c S x.co
  rw [e1,e2,e3]
  exact this
 rw [if_neg h5]
 by_cases h6:x.kd=6
 ·rw [if_pos h6]
  have:=wants_6 x h6 hW hF (hearM c S x.co).2.m (hearM c S x.co).2.e (fun w1 hc=>rhear9 (hk w1 hc) hI hn hT x.co)
  rw [←Qao]
  obtain ⟨e1,e2⟩:=hearM_did c S x.co
  rw [e1,e2]
  exact this
 rw [if_neg h6]
 by_cases h7:x.kd=7
 ·rw [if_pos h7]
  have:=wants_7 x h7 hW hF (pushM c S x.li).2.e (fun w1 hc=>rpush9 (hk w1 hc) hI hn x.li)
  rw [←Qao]
  obtain ⟨e1,e2,e3⟩:=pushM_did c S x.li
  rw [e1,e2,e3]
  exact this
 rw [if_neg h7]
 by_cases h8:x.kd=8
 ·rw [if_pos h8]
  have:=wants_8 x h8 hW hF (evictM c S x.co x.li).2.e (fun w1 hc=>revict9 (hk w1 hc) hI hn hT x.co x.li)
  rw [←Qao]
  obtain ⟨e1,e2,e3⟩:=evictM_did c S x.co x.li
  rw [e1,e2,e3]
  exact this
 rw [if_neg h8]
 by_cases h9:x.kd=9
 ·rw [if_pos h9]
  have:=wants_9 x h9 hW hF (dropM c S x.li).2.e (fun w1 hc=>rdrop9 (hk w1 hc) hI hn x.li)
  rw [←Qao]
  obtain ⟨e1,e2,e3⟩:=dropM_did c S x.li
  rw [e1,e2,e3]
  exact this
 rw [if_neg h9]
 by_cases h10:x.kd=10
 ·rw [if_pos h10]
  have:=wants_10 x h10 hW hF (drainM c S x.li).2.e (fun w1 hc=>rdrain9 (hk w1 hc) hI hn x.li)
  rw [←Qao]
  obtain ⟨e1,e2,e3⟩:=drainM_did c S x.li
  rw [e1,e2,e3]
  exact this
 rw [if_neg h10]
 by_cases h11:x.kd=11
 ·rw [if_pos h11]
  exact wants_11 x h11 hW hF hfail
 rw [if_neg h11]
 exact wants_12 x (by omega) hW hF (fun w1 hc=>RMS.same (hk w1 hc) (Chg.refl _ _))
end
section
attribute [local go_sem ↓] Xg Qac Jh Jj Jf Ji Jg rsc_0 rsc_1 rsc_3 rsc_4 rsc_7 rsc_8 rsc_9 rsc_10 rsc_s8 rsc_s9 Qet
attribute [local go_sem] Qdv Qdo Qa5 Qem Qb2
attribute [local go_sem ↓] Qea cg_li cg_vo cg_qu
attribute [local simp] Xg
attribute [local go_sem ↓] msg_same loadDid storeDid did_fold Qgn mstc_0 mstc_1 mstc_2 mstc_3 mstc_4
attribute [local go_sem] wideDid Zu did_one Qf2 Qd4
attribute [local simp] Zu
theorem didc_0 (d:MDid):(didc d)[0]? =some (.int .u64 d.v):=rfl
theorem didc_1 (d:MDid):(didc d)[1]? =some (.bool d.hit):=rfl
theorem didc_14 (d:MDid):(didc d)[14]? =some (.int .i64 d.e):=by
 have:(Ms.enc d.m).length=12:=Ms.len d.m
 simp [didc,this]
theorem didc_part (d:MDid) (t:TypeId) (f:Nat×Nat):Xq (some (.cells (didc d) t f)) 2 12=msc d.m:=by
 have:(Ms.enc d.m).length=12:=Ms.len d.m
 rw [XF]
 apply Array.ext'
 simp [didc,msc,this]
attribute [local go_sem ↓] didc_0 didc_1 didc_14
attribute [local go_sem] didc_part
theorem mplays_long (c0 c1 c2 c3 c4 c5 c6:Int) (B:Option Addr) (M cM:Nat) (zs:List Int) (A:Option Addr) (N cN:Nat) (xs:List Value) (W:World) (hT:Tabs W) (hB:Sl W 8 B M (zs.map (Value.int .u64))) (hM:M≤maxLen) (hA:Sl W 5 A N xs) (hN:N≤maxLen) (hk:∀i,i<N→AreKd W kMst ((xs.drop (i*5)).take 5)) (hl:400<N):Calls Tryz.prog 3 #[.agg #[.int .i64 c0,.int .i64 c1,.int .i64 c2,.int .i64 c3,.int .i64 c4,.int .i64 c5,.int .i64 c6],.slice B M cM,.slice A N cN] W fun e w'=>e=.returned (.bool true)∧Chg [] W w':=by
 unfold maxLen at hN
 have t0:decide (400<N)=true:=by simpa using hl
 have t1:decide ((400:Int)<(N:Int))=true:=by simp;omega
 have HT:=Vh hT
 clear hT hA hk hl hB hM
 exact Tz104
theorem mplays_img (c0 c1 c2 c3 c4 c5 c6:Int) (B:Option Addr) (M cM:Nat) (zs:List Int) (A:Option Addr) (N cN:Nat) (xs:List Value) (W:World) (hT:Tabs W) (hB:Sl W 8 B M (zs.map (Value.int .u64))) (hM:M≤maxLen) (hA:Sl W 5 A N xs) (hN:N≤maxLen) (hk:∀i,i<N→AreKd W kMst ((xs.drop (i*5)).take 5)) (hl:¬400<N) (hl2:100<M):Calls Tryz.prog 3 #[.agg #[.int .i64 c0,.int .i64 c1,.int .i64 c2,.int .i64 c3,.int .i64 c4,.int .i64 c5,.int .i64 c6],.slice B M cM,.slice A N cN] W fun e w'=>e=.returned (.bool true)∧Chg [] W w':=by
 unfold maxLen at hN
 have t0:decide (400<N)=false:=by simpa using hl
 have t1:decide ((400:Int)<(N:Int))=false:=decide_eq_false (by omega)
 have t2:decide (100<M)=true:=by simpa using hl2
 have t3:decide ((100:Int)<(M:Int))=true:=by simp;omega
 have HT:=Vh hT
 clear hT hA hk hl hl2 hB hM
 exact Tz104
theorem mplays_bad (c0 c1 c2 c3 c4 c5 c6:Int) (B:Option Addr) (M cM:Nat) (zs:List Int) (A:Option Addr) (N cN:Nat) (xs:List Value) (W:World) (hT:Tabs W) (hB:Sl W 8 B M (zs.map (Value.int .u64))) (hM:M≤maxLen) (hA:Sl W 5 A N xs) (hN:N≤maxLen) (hk:∀i,i<N→AreKd W kMst ((xs.drop (i*5)).take 5)) (hl:¬400<N) (hl2:¬100<M) (hg:Ys c0 c1 c2 c3 c4 c5 c6=false):Calls Tryz.prog 3 #[.agg #[.int .i64 c0,.int .i64 c1,.int .i64 c2,.int .i64 c3,.int .i64 c4,.int .i64 c5,.int .i64 c6],.slice B M cM,.slice A N cN] W fun e w'=>e=.returned (.bool true)∧Chg [] W w':=by
 have HZ:=Vh (fun (A:Option Addr) (nc:Nat) w=>znew_bad c0 c1 c2 c3 c4 c5 c6 A M nc w hg)
 have HR:=Vh (fun w=>rnew_badC c0 c1 c2 c3 c4 c5 c6 B M cM w hg)
 have t0:decide (400<N)=false:=by simpa using hl
 have t1:decide ((400:Int)<(N:Int))=false:=decide_eq_false (by omega)
 have t2:decide (100<M)=false:=by simpa using hl2
 have t3:decide ((100:Int)<(M:Int))=false:=decide_eq_false (by omega)
 have hN4:N≤400:=by omega
 have HT:=Vh hT
 have HA:=Vh hA
 have HK:=Vh hk
 have HB:=Vh hB
 have HL2:=Vh (show M≤100 by omega)
 clear hT hA hk hl hl2 hB hM hN
 go_enter Tryz.func3,Tryz.ntmps3
 try dsimp only [List.append]
 go_upto_region 1 with fail
 have r0:(W.alloc (.cells #[.int .i64 c0,.int .i64 c1,.int .i64 c2,.int .i64 c3,.int .i64 c4,.int .i64 c5,.int .i64 c6] 23)).heap[W.heap.size]? =some (.cells #[.int .i64 c0,.int .i64 c1,.int .i64 c2,.int .i64 c3,.int .i64 c4,.int .i64 c5,.int .i64 c6] 23 (0,0)):=Yr _ _
 have C0:=Vh ((Chg.refl [] W).alloc (.cells #[.int .i64 c0,.int .i64 c1,.int .i64 c2,.int .i64 c3,.int .i64 c4,.int .i64 c5,.int .i64 c6] 23))
 generalize hw1:W.alloc (.cells #[.int .i64 c0,.int .i64 c1,.int .i64 c2,.int .i64 c3,.int .i64 c4,.int .i64 c5,.int .i64 c6] 23)=w1 at r0 C0 ⊢
 clear hw1
 have o0:=old r0
 obtain ⟨gi,ci,ri,wi,hcl0,hgi,hge,hci0⟩:=Qg6 w1.drew B M cM zs (HB.out.chg C0.out.drew (by simp)) (by have:=HL2.out;omega)
 have hcl:appR Tryz.prog 24 24 #[.slice (some ⟨w1.heap.size,0,none⟩) 0 0,.slice B M cM] (w1.alloc (.cells #[] 36)).drew=.ok (.slice (some ⟨gi,0,none⟩) M ci) wi:=hcl0
 have HCI:=Vh (C0.out.drew.trans hci0)
 have ri1:=(((Chg.refl [] w1).drew).trans hci0).keep r0 Vn
 have rm:=((Chg.refl [] w1).alloc (.cells #[] 36)).drew.keep r0 Vn
 have HGI:=Vh hgi
 clear hgi hge hci0 hcl0
 go_wp2_with fail
 go_region_held3 (fun w'=>w'.heap[W.heap.size]? =some (.cells #[.int .i64 c0,.int .i64 c1,.int .i64 c2,.int .i64 c3,.int .i64 c4,.int .i64 c5,.int .i64 c6] 23 (0,0))) (first |exact r0|exact ri1|exact rm|exact cw2.keep ri1 Vn)
  (first |(go_at_call 12;refine (HZ.out _ _ _).mono ?_;rintro e w2 ⟨rfl,cw2⟩))
 all_goals
  exact Tz78
theorem mplays_len (c:Cg) (hc:c.Ok) (B:Option Addr) (M cM:Nat) (zs:List Int) (A:Option Addr) (N cN:Nat) (xs:List Value) (W:World) (hT:Tabs W) (hB:Sl W 8 B M (zs.map (Value.int .u64))) (hM:M≤maxLen) (hA:Sl W 5 A N xs) (hN:N≤maxLen) (hk:∀i,i<N→AreKd W kMst ((xs.drop (i*5)).take 5)) (hl:¬400<N) (hl2:¬100<M) (hm0:M≠0) (hm1:M≠c.li):Calls Tryz.prog 3 #[.agg c.cells,.slice B M cM,.slice A N cN] W fun e w'=>e=.returned (.bool true)∧Chg [] W w':=by
 have HZ:=Vh (fun (A:Option Addr) (nc:Nat) w=>znew_len c hc A M nc w hm0 hm1)
 have HR:=Vh (fun w=>rnew_len c hc B M cM w hm0 hm1)
 have t0:decide (400<N)=false:=by simpa using hl
 have t1:decide ((400:Int)<(N:Int))=false:=decide_eq_false (by omega)
 have t2:decide (100<M)=false:=by simpa using hl2
 have t3:decide ((100:Int)<(M:Int))=false:=decide_eq_false (by omega)
 have hN4:N≤400:=by omega
 have HT:=Vh hT
 have HA:=Vh hA
 have HK:=Vh hk
 have HB:=Vh hB
 have HL2:=Vh (show M≤100 by omega)
 clear hT hA hk hl hl2 hB hM hN
 go_enter Tryz.func3,Tryz.ntmps3
 try dsimp only [List.append]
 go_upto_region 1 with fail
 have r0:(W.alloc (.cells c.cells 23)).heap[W.heap.size]? =some (.cells c.cells 23 (0,0)):=Yr _ _
 have C0:=Vh ((Chg.refl [] W).alloc (.cells c.cells 23))
 generalize hw1:W.alloc (.cells c.cells 23)=w1 at r0 C0 ⊢
 clear hw1
 have o0:=old r0
 obtain ⟨gi,ci,ri,wi,hcl0,hgi,hge,hci0⟩:=Qg6 w1.drew B M cM zs (HB.out.chg C0.out.drew (by simp)) (by have:=HL2.out;omega)
 have hcl:appR Tryz.prog 24 24 #[.slice (some ⟨w1.heap.size,0,none⟩) 0 0,.slice B M cM] (w1.alloc (.cells #[] 36)).drew=.ok (.slice (some ⟨gi,0,none⟩) M ci) wi:=hcl0
 have HCI:=Vh (C0.out.drew.trans hci0)
 have ri1:=(((Chg.refl [] w1).drew).trans hci0).keep r0 Vn
 have rm:=((Chg.refl [] w1).alloc (.cells #[] 36)).drew.keep r0 Vn
 have HGI:=Vh hgi
 clear hgi hge hci0 hcl0
 go_wp2_with fail
 go_region_held3 (fun w'=>w'.heap[W.heap.size]? =some (.cells c.cells 23 (0,0))) (first |exact r0|exact ri1|exact rm|exact cw2.keep ri1 Vn)
  (first |(go_at_call 12;refine (HZ.out _ _ _).mono ?_;rintro e w2 ⟨rfl,cw2⟩))
 all_goals
  exact Tz78
set_option maxHeartbeats 4000000 in
theorem mplays_run (c:Cg) (hc:c.Ok) (B:Option Addr) (M cM:Nat) (zs:List Int) (A:Option Addr) (N cN:Nat) (xs:List Value) (W:World) (hT:Tabs W) (hB:Sl W 8 B M (zs.map (Value.int .u64))) (hM:M≤maxLen) (hA:Sl W 5 A N xs) (hN:N≤maxLen) (hk:∀i,i<N→AreKd W kMst ((xs.drop (i*5)).take 5)) (hl:¬400<N) (hl2:¬100<M) (X0:List Int) (hX0:X0.length=c.li*8)
 (hZ:∀(w:World) (A:Option Addr) (nc:Nat),Chg [] W w→Sl w 8 A M (zs.map (Value.int .u64))→Calls Tryz.prog 12 #[.agg c.cells,.slice A M nc] w fun e w'=>∃sy F,e=.returned (.tuple #[.pointer (some ⟨sy,0,none⟩),.int .i64 0])∧Mem W w' c sy F (List.replicate c.co (pt0 c)) (List.replicate c.li enE) [] X0∧Chg [] w w'∧∀k∈F,w.heap.size≤k)
 (hR:∀w,Chg [] W w→Calls Tryz.prog 13 #[.agg c.cells,.slice B M cM] w (RMade W w c X0)):Calls Tryz.prog 3 #[.agg c.cells,.slice B M cM,.slice A N cN] W fun e w'=>e=.returned (.bool true)∧Chg [] W w':=by
 have HZ:=Vh hZ
 have HR:=Vh hR
 have HCO:=Vh hc
 have HX0:=Vh hX0
 have t0:decide (400<N)=false:=by simpa using hl
 have t1:decide ((400:Int)<(N:Int))=false:=decide_eq_false (by omega)
 have t2:decide (100<M)=false:=by simpa using hl2
 have t3:decide ((100:Int)<(M:Int))=false:=decide_eq_false (by omega)
 have hN4:N≤400:=by omega
 have HT:=Vh hT
 have HA:=Vh hA
 have HK:=Vh hk
 have HB:=Vh hB
 have HL2:=Vh (show M≤100 by omega)
 have HZL:=Vh (show zs.length=M*8 by simpa using hB.1)
 clear hT hA hk hl hl2 hB hM hN hZ hR hc hX0
 go_enter Tryz.func3,Tryz.ntmps3
 try dsimp only [List.append]
 go_upto_region 1 with fail
 have r0:(W.alloc (.cells c.cells 23)).heap[W.heap.size]? =some (.cells c.cells 23 (0,0)):=Yr _ _
 have C0:=Vh ((Chg.refl [] W).alloc (.cells c.cells 23))
 generalize hw1:W.alloc (.cells c.cells 23)=w1 at r0 C0 ⊢
 clear hw1
 have o0:=old r0
 obtain ⟨gi,ci,ri,wi,hcl0,hgi,hge,hci0⟩:=Qg6 w1.drew B M cM zs (HB.out.chg C0.out.drew (by simp)) (by have:=HL2.out;omega)
 have hcl:appR Tryz.prog 24 24 #[.slice (some ⟨w1.heap.size,0,none⟩) 0 0,.slice B M cM] (w1.alloc (.cells #[] 36)).drew=.ok (.slice (some ⟨gi,0,none⟩) M ci) wi:=hcl0
 have HCI:=Vh (C0.out.drew.trans hci0)
 have ri1:=(((Chg.refl [] w1).drew).trans hci0).keep r0 Vn
 have rm:=((Chg.refl [] w1).alloc (.cells #[] 36)).drew.keep r0 Vn
 have HGI:=Vh hgi
 have SI:=Vh (Sl.of_bk (n:=M) HGI.out HZL.out)
 clear hgi hge hci0 hcl0
 go_wp2_with fail
 go_region_held3 (fun w'=>w'.heap[W.heap.size]? =some (.cells c.cells 23 (0,0))) (first |exact r0|exact ri1|exact rm|exact cw2.keep ri1 Vn)
  (first |(go_at_call 12;refine (HZ.out _ _ ci (HCI.out) SI.out).mono ?_;rintro e w2 ⟨sy,F,rfl,hm2,cw2,hk2⟩))
 all_goals
  have C2:=Vh (HCI.out.trans cw2)
  have r2:=cw2.keep ri1 Vn
  have M2:=Vh (show MS W w2 c sy F ⟨List.replicate c.co (pt0 c),List.replicate c.li enE,[],X0⟩ from hm2)
  clear cw2 ri1 rm r0 o0 hcl hm2 hk2
  have o2:=old r2
  go_wp2_with fail
  refine (HR.out _ C2.out).mono ?_
  rintro e w3 ⟨sq,G,rfl,hr3,cw3,hk3⟩
  have M3:=Vh (show MS W w3 c sy F _ from Mem.keep M2.out cw3)
  have R3:=Vh hr3
  have D3:=Vh (show ∀k∈F,k∉G from fun k h1 h2=>by have:=Mem.old M2.out k h1;have:=hk3 k h2;omega)
  have I3:=Vh (Inv.fresh c HCO.out X0 HX0.out)
  clear cw3 r2 o2 hr3 hk3
  go_wp2_with fail
  go_loopw [11] (fun i wr=>∃(k:Nat) (F G:List Nat) (S:Mst) (cur:Nat→List Int),k≤N∧i=.int .i64 k∧MS W wr c sy F S∧RMS W wr c sq G S∧Inv c k S cur∧(∀b∈F,b∉G)) (fun i _=>N-(intOf i).toNat)
  case atStart=>exact ⟨0,F,G,_,_,by omega,rfl,M3.out,R3.out,I3.out,D3.out⟩
  case round=>
   obtain ⟨k,F,G,S,cur,hkN,rfl,hm,hr,hI,hd⟩:=hrel
   have HM:=Vh hm
   have HRR:=Vh hr
   have HI:=Vh hI
   have HD:=Vh hd
   clear hm hr hI hd M3 R3 D3 I3 M2 C2
   have g0:(0:Int)≤(k:Int):=by omega
   by_cases hlt:k<N
   ·have t4:decide (k<N)=true:=by simpa using hlt
    have g1:(k:Int)<(N:Int):=by omega
    obtain ⟨ba,oa,rfl⟩:=HA.out.addr (by omega)
    obtain ⟨x,cs,t,f,hb,hi,hp,hv⟩:=mstep_row HA.out hlt (HK.out k hlt)
    have HBW:=Vh hb
    have HV:=Vh hv
    have hbr:=(Mem.chg HM.out).keep hb (by simp)
    have obr:=old hbr
    have hop:=Vh (do_any HM.out HI.out (by omega) HT.out x hv)
    have HN9:=Vh (show k≤900 by omega)
    have HI1:=Vh (HI.out.step x.kd x.co x.li x.wd x.v)
    clear hb hv
    go_wp2_with fail
    clear hbr obr
    refine hop.out.mono ?_
    have HWA:=Vh (fun w8 (hR:RMS W w8 c sq G S)=>wants_any hR HI.out HN9.out HT.out x HV.out (fun w1 hc=>rfail9 (RMS.keepL hR hc (by simp) (by simp)) HI.out))
    obtain ⟨d,hd⟩:∃d,stepM c S x.kd x.co x.li x.wd x.v=d:=⟨_,rfl⟩
    rw [hd] at HI1 HWA ⊢
    obtain ⟨S',dd⟩:=d
    dsimp only at HI1 HWA ⊢
    clear hd hop HN9
    unfold didV
    rintro e w5 ⟨rfl,m5⟩
    obtain ⟨F5,hm5,cw5,hk5⟩:=m5
    have HM5:=Vh (show MS W w5 c sy F5 S' from hm5)
    have HR5:=Vh (RMS.keepL HRR.out cw5 HD.out (Mem.new HM.out))
    have HD5:=Vh (show ∀b∈F5,b∉G from fun b h1 h2=>by
     rcases hk5 b h1 with h3|h3
     ·exact HD.out b h3 h2
     ·have:=RMS.old HRR.out b h2;omega)
    clear hm5 cw5 hk5
    go_upto_region 13 with fail
    have r6:(w5.alloc (.cells (msc dd.m) 38)).heap[w5.heap.size]? =some (.cells (msc dd.m) 38 (0,0)):=Yr _ _
    have ca:Chg [] w5 (w5.alloc (.cells (msc dd.m) 38)):=(Chg.refl [] w5).alloc _
    have HM6:=Vh (show MS W _ c sy F5 S' from Mem.keep HM5.out ca)
    have HR6:=Vh (RMS.keepL HR5.out ca (by simp) (by simp))
    have NB6:=Vh (show w5.heap.size∉G from fun h=>by have:=RMS.old HR5.out _ h;omega)
    generalize w5.heap.size=b6 at r6 NB6 ⊢
    generalize w5.alloc (.cells (msc dd.m) 38)=w6 at r6 HM6 HR6 ⊢
    clear ca
    have hbr:=(Mem.chg HM6.out).keep HBW.out (by simp)
    have obr:=old hbr
    have o6:=old r6
    have hw6:=Vh (HWA.out w6 HR6.out)
    go_wp2_with fail
    clear hbr obr
    refine hw6.out.mono ?_
    rintro e w7 ⟨rfl,m7⟩
    obtain ⟨G7,hr7,cw7,hk7⟩:=m7
    have r7:=cw7.keep r6 NB6.out
    have HR7:=Vh hr7
    have HM7:=Vh (show MS W w7 c sy F5 S' from Mem.keepL HM6.out cw7 (fun b h1 h2=>HD5.out b h2 h1) (RMS.new HR6.out))
    have HD7:=Vh (show ∀b∈F5,b∉G7 from fun b h1 h2=>by
     rcases hk7 b h2 with h3|h3
     ·exact HD5.out b h1 h3
     ·have:=Mem.old HM6.out b h1;omega)
    clear hr7 cw7 hk7 r6 o6 hw6
    go_upto_region 14 with fail
    have r8:(w7.alloc (.cells (didc dd) 44)).heap[w7.heap.size]? =some (.cells (didc dd) 44 (0,0)):=Yr _ _
    have ca:Chg [] w7 (w7.alloc (.cells (didc dd) 44)):=(Chg.refl [] w7).alloc _
    have r78:=ca.keep r7 Vn
    have HM8:=Vh (show MS W _ c sy F5 S' from Mem.keep HM7.out ca)
    have HR8:=Vh (RMS.keepL HR7.out ca (by simp) (by simp))
    generalize w7.heap.size=b8 at r8 ⊢
    generalize w7.alloc (.cells (didc dd) 44)=w8 at r8 r78 HM8 HR8 ⊢
    clear ca r7
    have o8:=old r8
    have o78:=old r78
    by_cases h7:k % 7=0
    ·have tm:((k:Int) % 7==0)=true:=by simp;omega
     obtain ⟨z,L,hzs,_,hps,hsd⟩:=id HR8.out
     have hs:=Vh (same9 HM8.out hsd hps HI1.out (by omega))
     rw [hzs] at hs
     clear hzs hps hsd
     go_wp2_with fail
     refine hs.out.mono ?_
     rintro e w9 ⟨rfl,cw9⟩
     have HM9:=Vh (show MS W w9 c sy F5 S' from Mem.keep HM8.out cw9)
     have HR9:=Vh (RMS.keepL HR8.out cw9 (by simp) (by simp))
     clear cw9
     go_wp2_with fail
     go_roundw
     case rel=>exact ⟨k+1,F5,G7,S',_,by omega,by go_num,HM9.out,HR9.out,HI1.out,HD7.out⟩
     case measure=>simp [intOf];omega
    ·have tm:((k:Int) % 7==0)=false:=by simp;omega
     go_wp2_with fail
     go_roundw
     case rel=>exact ⟨k+1,F5,G7,S',_,by omega,by go_num,HM8.out,HR8.out,HI1.out,HD7.out⟩
     case measure=>simp [intOf];omega
   ·obtain rfl:k=N:=by omega
    have t4:decide (k<k)=false:=by simp
    obtain ⟨z,L,hzs,_,hps,hsd⟩:=id HRR.out
    have hs:=Vh (same9 HM.out hsd hps HI.out (by omega))
    rw [hzs] at hs
    clear hzs hps hsd
    go_wp2_with fail
    refine hs.out.mono ?_
    rintro e w9 ⟨rfl,cw9⟩
    have C9:=Vh ((Mem.chg HM.out).trans cw9)
    clear cw9
    go_wp2_with fail
    refine (mwakes _ (HT.out.keep0 C9.out)).mono ?_
    rintro e w10 ⟨rfl,cw10⟩
    go_wp2_with fail
    go_ret
    exact ⟨rfl,C9.out.trans cw10⟩
theorem mplays_any (c0 c1 c2 c3 c4 c5 c6:Int) (B:Option Addr) (M cM:Nat) (zs:List Int) (A:Option Addr) (N cN:Nat) (xs:List Value) (W:World) (hT:Tabs W) (hB:Sl W 8 B M (zs.map (Value.int .u64))) (hM:M≤maxLen) (hA:Sl W 5 A N xs) (hN:N≤maxLen) (hk:∀i,i<N→AreKd W kMst ((xs.drop (i*5)).take 5)):Calls Tryz.prog 3 #[.agg #[.int .i64 c0,.int .i64 c1,.int .i64 c2,.int .i64 c3,.int .i64 c4,.int .i64 c5,.int .i64 c6],.slice B M cM,.slice A N cN] W fun e w'=>e=.returned (.bool true)∧Chg [] W w':=by
 by_cases hl:400<N
 ·exact mplays_long c0 c1 c2 c3 c4 c5 c6 B M cM zs A N cN xs W hT hB hM hA hN hk hl
 by_cases hl2:100<M
 ·exact mplays_img c0 c1 c2 c3 c4 c5 c6 B M cM zs A N cN xs W hT hB hM hA hN hk hl hl2
 cases hg:Ys c0 c1 c2 c3 c4 c5 c6
 ·exact mplays_bad c0 c1 c2 c3 c4 c5 c6 B M cM zs A N cN xs W hT hB hM hA hN hk hl hl2 hg
 obtain ⟨c,hc,rfl,rfl,rfl,rfl,rfl,rfl,rfl⟩:=cg_of hg
 by_cases hm0:M=0
 ·subst hm0
  refine mplays_run c hc B 0 cM zs A N cN xs W hT hB hM hA hN hk hl hl2 (List.replicate (c.li*8) 0) (by simp) (fun w A nc hW hs=>mnew_none W w c hc hW A nc) (fun w hW=>?_)
  have:=rnew_none W w c hc hW B cM
  rw [forget_zeros _ _ (Nat.le_of_lt hc.vol)] at this
  exact this
 by_cases hm:M=c.li
 ·subst hm
  have hzl:zs.length=c.li*8:=by simpa using hB.1
  exact mplays_run c hc B c.li cM zs A N cN xs W hT hB hM hA hN hk hl hl2 (XE zs c.vo) (by rw [Jv _ _ (by have:=hc.vol;omega)];exact hzl) (fun w A nc hW hs=>mnew_img W w c hc hW A nc zs hs) (fun w hW=>rnew_img W w c hc hW B cM zs (hB.chg hW (by simp)))
 ·exact mplays_len c hc B M cM zs A N cN xs W hT hB hM hA hN hk hl hl2 hm0 hm
end
end Go.Proofs.YtadeoflkppiflaaGreatDoor
