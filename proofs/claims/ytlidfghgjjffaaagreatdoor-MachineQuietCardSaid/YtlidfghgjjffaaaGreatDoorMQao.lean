/- Texts of the walk, one behind the other: Coa Cob Coc Cod Coe Cof Cog Coh Qtl Cox. No condition. -/
import Derived.Test.YtlidfghgjjffaaaGreatDoorMQaa
import Derived.Test.YtlidfghgjjffaaaGreatDoorMQab
import Derived.Test.YtlidfghgjjffaaaGreatDoorMQaj
import Derived.Test.YtlidfghgjjffaaaGreatDoorMQal
import Derived.Test.YtlidfghgjjffaaaGreatDoorMQan
import Derived.BigQuiet
import Derived.Deep.Cut
import Derived.Deep.CutBlock
import Derived.Deep.CutRange
import Derived.Deep.DeepCutAuto
import Derived.Deep.Quiet
import Derived.Deep.QuietTactic
import Derived.Deep.RegionHeld3
import Derived.Deep.RegionLaw
import Derived.Deep.RegionWith
import Derived.StillTail
import Derived.StillTailTactics
namespace Go.Proofs.YtlidfghgjjffaaaGreatDoor
open Go.RowKit
set_option linter.unusedVariables false
set_option maxHeartbeats 1000000
section
theorem Yh:Wide Tryz.prog 48 5:=⟨⟨_,Tryz.underlying48,by rfl⟩,by kernel_rfl⟩
theorem Yj (x:Value):Instr.loadAt 48 x=Qdf 48 5 x:=rfl
theorem Xs (x y:Value):Instr.storeAt 48 x y=Qar 48 5 x y:=rfl
theorem Yi (x:Value):Instr.loadAt 58 x=Qdf 58 8 x:=rfl
theorem Xr (x y:Value):Instr.storeAt 58 x y=Qar 58 8 x y:=rfl
set_option maxRecDepth 100000
attribute [local go_sem ↓] Qv QF Qx QP QG Qs Qk Qh heap_alloc Ql heap_setCell Qc X7 Xl Xd ZF Yj Xs Yi Xr X1 X0 XW XX XY Xe XK XJ XI Xg Yq Yr Yp Ym Yn YC Yy Xv YA YB Yz Yx
attribute [local go_sem] Qb Qa Qe Qi Qd Qg Qf QB Qw QN QL QM Q6 QJ QA Qr QD QX QI Qq QC Qp Qj Qo Qn XV Xb Yh Q5 Xm Xn JC XZ ZU ZT ZS ZR X6 X5 X2 X3 X4 QE ZI Xf ZJ XH Q8 Xt Yo Xu JP Z3 Z2 Z1 Z0 ZZ Yv Yw Yu Ys Yt ZY QS QT QR QK Qt Zk
attribute [local simp ↓] Qk Qh heap_alloc Ql heap_setCell Qc
attribute [local simp] Qb Qa Qe Qi Qd Qg Qf Qr Qj Qo Qn Q5 QE Q8 QS QT QR QK Qt QD
def CoAt (w:World) (kb:Nat) (id:Int) (ru:Bool) (rg:List Int) (pb np:Nat) (pc:Int) (qb:Nat) (wt:Int):Prop:=w.heap[kb]? =some (.cells (coc id ru rg pb np pc qb wt) 124 (0,0))
theorem results_ev {fn:Func} {p:Tmp} (h:fn.results=#[.cell p 48]) (tmps:Array Value) (w:World) (q:Nat) (x:Ev) (fr:Nat×Nat)
 (hp:tmps.getD p undef=.pointer (some ⟨q,0,none⟩)) (hb:w.heap[q]? =some (.cells (evc x) 48 fr)):(results fn tmps).run Tryz.prog w=.ok (.agg (evc x)) w:=by
 have hp':tmps[p]?.getD undef=.pointer (some ⟨q,0,none⟩):=by simpa using hp
 have:=run_loadVar_row (P:=Tryz.prog) w q 48 48 (evc x) fr _ hb Tryz.underlying48 rfl (by rw [Q8];kernel_rfl)
 simp [results,h,hp',asAddr,this]
section
variable {w:World} {kb:Nat} {id:Int} {ru:Bool} {rg:List Int} {pb np:Nat} {pc:Int} {qb:Nat} {wt:Int} (h8:rg.length=8) (hb:w.heap[kb]? =some (.cells (coc id ru rg pb np pc qb wt) 124 (0,0)))
include hb
theorem Qcz (kd li wo va:Int):Calls Tryz.prog 105 #[.pointer (some ⟨kb,0,none⟩),.int .i64 kd,.int .i64 li,.int .i64 wo,.int .u64 va] w fun e w'=>e=.returned (.agg (evc ⟨kd,id,li,wo,va⟩))∧Chg [] w w':=by
 have ob:=old hb
 go_enter Tryz.func105,Tryz.ntmps105
 go_wp2_with fail
 refine bodyPost_ret (v:=.agg (evc ⟨kd,id,li,wo,va⟩)) (results_ev (by rfl) _ _ w.heap.size _ (0,0) (by rfl) (by simp;try rfl)) (by rfl) ⟨rfl,(Chg.refl [] w).alloc _⟩
theorem Qa7:Calls Tryz.prog 63 #[.pointer (some ⟨kb,0,none⟩)] w fun e w'=>e=.returned (.bool ru)∧w=w':=by
 go_enter Tryz.func63,Tryz.ntmps63
 exact Tz34
include h8
theorem cnext (v:Value) (h1: -9223372036854775808≤pc+1) (h2:pc+1≤9223372036854775807):Calls Tryz.prog 104 #[.pointer (some ⟨kb,0,none⟩),v] w fun e w'=>e=.returned v∧Chg [kb] w w'∧CoAt w' kb id ru rg pb np (pc+1) qb wt:=by
 have ob:=old hb
 go_enter Tryz.func104,Tryz.ntmps104
 go_wp2_with fail
 go_ret
 refine ⟨rfl,(Chg.refl [kb] w).setCell kb _ _ (.inl (by simp)),?_⟩
 unfold CoAt
 rw [heap_setCell,if_pos rfl,hb,Qf,QT h8]
theorem cwaits:Calls Tryz.prog 65 #[.pointer (some ⟨kb,0,none⟩)] w fun e w'=>e=.returned (.int .i64 wt)∧w=w':=by
 go_enter Tryz.func65,Tryz.ntmps65
 exact Tz34
theorem cend (kd:Int):Calls Tryz.prog 101 #[.pointer (some ⟨kb,0,none⟩),.int .i64 kd] w fun e w'=>∃be,e=.returned (.slice (some ⟨be,0,none⟩) 1 1)∧Chg [kb] w w'∧CoAt w' kb id false rg pb np pc qb wt∧w'.heap[be]? =some (.cells (evc ⟨kd,id,0,0,0⟩) 48 (0,0))∧w.heap.size≤be:=by
 have _:=h8
 have ob:=old hb
 have hb1:(w.setCell ⟨kb,1,none⟩ (.bool false)).heap[kb]? =some (.cells (coc id false rg pb np pc qb wt) 124 (0,0)):=by
  rw [heap_setCell,if_pos rfl,hb,Qf,QS]
 have hs:(w.setCell ⟨kb,1,none⟩ (.bool false)).heap.size=w.heap.size:=by simp
 have HC:=Vh ((Chg.refl [kb] w).setCell kb 1 (.bool false) (.inl (by simp)))
 go_enter Tryz.func101,Tryz.ntmps101
 go_wp2_with fail
 generalize hw:w.setCell ⟨kb,1,none⟩ (.bool false)=w1 at hb1 hs HC ⊢
 refine (Qcz hb1 kd 0 0 0).mono ?_
 rintro e w2 ⟨rfl,c2⟩
 have hb2:=c2.keep hb1 (by simp)
 have HC2:=Vh (HC.out.trans (c2.mono (by simp)))
 have ob2:=old hb2
 clear hw hb1 HC
 go_wp2_with fail
 go_ret
 refine ⟨w2.heap.size,rfl,HC2.out.alloc _,?_,by simp,?_⟩
 ·unfold CoAt
  rw [heap_alloc,hb2];rfl
 ·have:=c2.size
  omega
theorem cstop:Calls Tryz.prog 90 #[.pointer (some ⟨kb,0,none⟩)] w fun e w'=>e=.returned (.tuple #[])∧Chg [kb] w w'∧CoAt w' kb id false rg pb np pc qb wt:=by
 have _:=h8
 have ob:=old hb
 go_enter Tryz.func90,Tryz.ntmps90
 go_wp2_with fail
 go_end0
 refine ⟨rfl,(Chg.refl [kb] w).setCell kb _ _ (.inl (by simp)),?_⟩
 unfold CoAt
 rw [heap_setCell,if_pos rfl,hb,Qf,QS]
end
theorem cruns_nil (w:World):Calls Tryz.prog 63 #[.pointer none] w fun e w'=>e=.returned (.bool false)∧w=w':=by
 go_enter Tryz.func63,Tryz.ntmps63
 exact Tz34
theorem cwaits_nil (w:World):Calls Tryz.prog 65 #[.pointer none] w fun e w'=>e=.returned (.int .i64 0)∧w=w':=by
 go_enter Tryz.func65,Tryz.ntmps65
 exact Tz34
theorem cexec_nil (w:World) (s:Option Addr):Calls Tryz.prog 78 #[.pointer none,.pointer s] w fun e w'=>e=.returned (.slice none 0 0)∧w=w':=by
 go_enter Tryz.func78,Tryz.ntmps78
 try dsimp only [List.append]
 go_wp2_with (go_at_call 63;refine (cruns_nil _).mono ?_;rintro e w' ⟨rfl,rfl⟩)
 go_ret
 exact ⟨rfl,rfl⟩
theorem cdrain_nil (w:World) (s:Option Addr):Calls Tryz.prog 79 #[.pointer none,.pointer s] w fun e w'=>e=.returned (.slice none 0 0)∧w=w':=by
 go_enter Tryz.func79,Tryz.ntmps79
 try dsimp only [List.append]
 exact Tz34
section
variable {w:World} {kb:Nat} {id:Int} {ru:Bool} {rg:List Int} {pb np:Nat} {pc:Int} {qb:Nat} {wt:Int} (hb:w.heap[kb]? =some (.cells (coc id ru rg pb np pc qb wt) 124 (0,0)))
include hb
end
end
section
set_option maxRecDepth 100000
attribute [local go_sem ↓] Qv QF Qx QP QG Qs Qk Qh heap_alloc Ql heap_setCell Qc X7 Xl Xd ZF Yj Xs Yi Xr X1 X0 XW XX XY Xe XK XJ XI Xg Yq Yr Yp Ym Yn YC Yy Xv YA YB Yz Yx
attribute [local go_sem] Qb Qa Qe Qi Qd Qg Qf QB Qw QN QL QM Q6 QJ QA Qr QD QX QI Qq QC Qp Qj Qo Qn XV Xb Yh Q5 Xm Xn JC XZ ZU ZT ZS ZR X6 X5 X2 X3 X4 QE ZI Xf ZJ XH Q8 Xt Yo Xu JP Z3 Z2 Z1 Z0 ZZ Yv Yw Yu Ys Yt ZY QS QT QR QK Qt Zk
attribute [local simp ↓] Qk Qh heap_alloc Ql heap_setCell Qc
attribute [local simp] Qb Qa Qe Qi Qd Qg Qf Qr Qj Qo Qn Q5 QE Q8 QS QT QR QK Qt QD
attribute [local go_sem ↓] Qh
structure CoOk (Q:Co):Prop where
 h8:Q.rg.length=8
 pc:Q.pc≤2147483648
 np:Q.pr.length≤4096
 pr:∀x∈Q.pr,0≤x.1∧x.1<18446744073709551616
 wt:Q.wt≤16
 id:0≤Q.id∧Q.id<8
 pos:PosC Q
structure Cor (w:World) (kb pb qb:Nat) (Q:Co):Prop where
 own:w.heap[kb]? =some (.cells (coc Q.id Q.ru Q.rg pb Q.pr.length Q.pc qb Q.wt) 124 (0,0))
 steps:Sts w pb (Q.pr.map stp)
 buf:Buf w qb Q.rm Q.es
 kp:kb≠pb
 kq:kb≠qb
 pq:pb≠qb
 ok:CoOk Q
theorem Cor.keep {w w':World} {kb pb qb:Nat} {Q:Co} {l:List Nat} (h:Cor w kb pb qb Q) (hc:Chg l w w') (h1:kb∉l) (h2:pb∉l) (h3:qb∉l):Cor w' kb pb qb Q:=
 ⟨hc.keep h.own h1,h.steps.keep hc h2,h.buf.keep hc h3,h.kp,h.kq,h.pq,h.ok⟩
theorem Cor.keep0 {w w':World} {kb pb qb:Nat} {Q:Co} (h:Cor w kb pb qb Q) (hc:Chg [] w w'):Cor w' kb pb qb Q:=h.keep hc (by simp) (by simp) (by simp)
theorem Cor.oldk {w:World} {kb pb qb:Nat} {Q:Co} (h:Cor w kb pb qb Q):Old w kb:=old h.own
theorem Cor.oldp {w:World} {kb pb qb:Nat} {Q:Co} (h:Cor w kb pb qb Q):Old w pb:=old h.steps
theorem Cor.oldq {w:World} {kb pb qb:Nat} {Q:Co} (h:Cor w kb pb qb Q):Old w qb:=h.buf.oldq
def EvV (w:World) (B kb:Nat) (F:List Nat) (v:Value) (l:List Ev):Prop:=∃A cap be,v=.slice A l.length cap∧Vec 5 48 Ev.enc w kb be A cap l∧(be=kb∨B≤be)∧(be=kb∨be∉F)
theorem EvV.nil (w:World) (B kb:Nat) (F:List Nat):EvV w B kb F (.slice none 0 0) []:=⟨none,0,kb,rfl,Vec.nil ..,.inl rfl,.inl rfl⟩
theorem EvV.one {w:World} {B kb be:Nat} {F:List Nat} {x:Ev} (h:w.heap[be]? =some (.cells (evc x) 48 (0,0))) (hk:be≠kb) (hB:B≤be) (hF:be∉F):EvV w B kb F (.slice (some ⟨be,0,none⟩) 1 1) [x]:=
 ⟨_,1,be,rfl,.inr ⟨hk,rfl,by simp,[],by rw [Qhy];exact h,by simp⟩,.inr hB,.inr hF⟩
theorem EvV.keep {w w':World} {B kb:Nat} {F:List Nat} {v:Value} {l:List Ev} {m:List Nat} (h:EvV w B kb F v l) (hc:Chg m w w') (hm:∀be,B≤be→be≠kb→be∉F→be∉m):EvV w' B kb F v l:=by
 obtain ⟨A,cap,be,h1,h2,h3,h4⟩:=h
 refine ⟨A,cap,be,h1,?_,h3,h4⟩
 rcases h2 with ⟨e1,e2,e3,e4⟩|⟨e1,e2,e3,r,e4,e5⟩
 ·exact .inl ⟨e1,e2,e3,e4⟩
 ·refine .inr ⟨e1,e2,e3,r,hc.keep e4 (hm be ?_ e1 ?_),e5⟩
  ·exact h3.resolve_left e1
  ·exact h4.resolve_left e1
def CoTo (w:World) (kb pb qb:Nat) (F:List Nat) (Q':Co) (l:List Ev) (e:Ending) (w':World):Prop:=∃v,e=.returned v∧EvV w' w.heap.size kb F v l∧Cor w' kb pb qb Q'∧Chg [kb,pb,qb] w w'
theorem wrap_i64_im {x:Int} (h:0≤x∧x≤2147483647):wrap64 x=x:=by
 have:wrap64 x=(x+9223372036854775808) % 18446744073709551616-9223372036854775808:=by simp [wrap64]
 omega
theorem evv_mono {w:World} {B B' kb:Nat} {F:List Nat} {v:Value} {l:List Ev} (h:EvV w B kb F v l) (hB:B'≤B):EvV w B' kb F v l:=by
 obtain ⟨A,cap,be,h1,h2,h3,h4⟩:=h
 exact ⟨A,cap,be,h1,h2,h3.imp id (Nat.le_trans hB),h4⟩
section
variable {w:World} {kb pb qb:Nat} {F:List Nat} {Q:Co} (hC:Cor w kb pb qb Q) (hF:∀k∈F,k<w.heap.size)
include hC
theorem dsettled:Calls Tryz.prog 137 #[.pointer (some ⟨kb,0,none⟩)] w fun e w'=>e=.returned (.bool (YQ Q))∧w=w':=by
 have h8:=hC.ok.h8
 have hb:=hC.own
 have HB:=Vh hC.buf
 have he:((Q.es.length:Int)==0)=Q.es.isEmpty:=by cases Q.es<;>simp;omega
 have hw:((Q.wt:Int)==0)=(Q.wt==0):=by rw [Bool.eq_iff_iff];simp
 clear hC
 unfold YQ
 generalize Q.es.isEmpty=b1 at he ⊢
 cases b1
 all_goals
  go_enter Tryz.func137,Tryz.ntmps137
  go_wp2_with (go_at_call 126;refine (Qh1 HB.out).mono ?_;rintro e w' ⟨rfl,rfl⟩)
  go_ret
  exact ⟨rfl,rfl⟩
include hF
theorem dend (kd:Int):Calls Tryz.prog 101 #[.pointer (some ⟨kb,0,none⟩),.int .i64 kd] w (CoTo w kb pb qb F (Qfc Q) [evC Q kd 0 0 0]):=by
 refine (cend hC.ok.h8 hC.own kd).mono ?_
 rintro e w' ⟨be,rfl,hc,hk,hv,hB⟩
 have ok:=hC.oldk.lt
 refine ⟨_,rfl,.one hv (by omega) hB (fun h=>by have:=hF _ h;omega),?_,hc.mono (by simp)⟩
 exact ⟨hk,hC.steps.keep hc (by simp [hC.kp.symm]),hC.buf.keep hc (by simp [hC.kq.symm]),hC.kp,hC.kq,hC.pq,⟨hC.ok.h8,hC.ok.pc,hC.ok.np,hC.ok.pr,hC.ok.wt,hC.ok.id,hC.ok.pos.stop⟩⟩
theorem dnext {v:Value} {l:List Ev} {B:Nat} (hv:EvV w B kb F v l) (hp:Q.pc<2147483648):Calls Tryz.prog 104 #[.pointer (some ⟨kb,0,none⟩),v] w fun e w'=>e=.returned v∧EvV w' B kb F v l∧Cor w' kb pb qb (YM Q)∧Chg [kb] w w':=by
 have _:=hF
 refine (cnext hC.ok.h8 hC.own v (by omega) (by omega)).mono ?_
 rintro e w' ⟨rfl,hc,hk⟩
 refine ⟨rfl,hv.keep hc (fun be _ h _=>by simpa using h),?_,hc⟩
 exact ⟨hk,hC.steps.keep hc (by simp [hC.kp.symm]),hC.buf.keep hc (by simp [hC.kq.symm]),hC.kp,hC.kq,hC.pq,⟨hC.ok.h8,by show Q.pc+1≤_;omega,hC.ok.np,hC.ok.pr,hC.ok.wt,hC.ok.id,hC.ok.pos.next⟩⟩
theorem Qfx {w2:World} (c2:Chg [] w w2) (x:Ev) (hp:Q.pc<2147483648):Calls Tryz.prog 104 #[.pointer (some ⟨kb,0,none⟩),.slice (some ⟨w2.heap.size,0,none⟩) 1 1] (w2.alloc (.cells (evc x) 48)) (CoTo w kb pb qb F (YM Q) [x]):=by
 have c3:Chg [] w (w2.alloc (.cells (evc x) 48)):=c2.alloc _
 have hs:=c2.size
 have hk:=hC.oldk.lt
 refine (dnext (hC.keep0 c3) (F:=F) (fun k h=>by have:=hF k h;simp;omega) (v:=.slice (some ⟨w2.heap.size,0,none⟩) 1 1) (l:=[x]) (B:=w.heap.size) (EvV.one (by simp) (by omega) hs (fun h=>by have:=hF _ h;omega)) hp).mono ?_
 rintro e w' ⟨rfl,h1,h2,h3⟩
 exact ⟨_,rfl,h1,h2,(c3.mono (by simp)).trans (h3.mono (by simp))⟩
theorem Qam (hp:Q.pc<2147483648):Calls Tryz.prog 104 #[.pointer (some ⟨kb,0,none⟩),.slice none 0 0] w (CoTo w kb pb qb F (YM Q) []):=by
 refine (dnext hC hF (EvV.nil w w.heap.size kb F) hp).mono ?_
 rintro e w' ⟨rfl,h1,h2,h3⟩
 exact ⟨_,rfl,h1,h2,h3.mono (by simp)⟩
theorem dfence (hp:Q.pc<2147483648):Calls Tryz.prog 106 #[.pointer (some ⟨kb,0,none⟩)] w (CoTo w kb pb qb F (if YQ Q then YM Q else Q) (if YQ Q then [evC Q 7 0 0 0] else [])):=by
 have S:=dsettled hC
 cases hs:YQ Q
 ·rw [hs] at S
  show Calls _ _ _ _ (CoTo w kb pb qb F Q [])
  have HS:=Vh S
  have HC:=Vh hC
  clear S hC hs hF
  go_enter Tryz.func106,Tryz.ntmps106
  go_wp2_with (go_at_call 137;refine HS.out.mono ?_;rintro e w' ⟨rfl,rfl⟩)
  go_ret
  exact ⟨_,rfl,EvV.nil ..,HC.out,Chg.refl _ _⟩
 ·rw [hs] at S
  show Calls _ _ _ _ (CoTo w kb pb qb F (YM Q) [evC Q 7 0 0 0])
  have HS:=Vh S
  have HC:=Vh hC
  have HF:=Vh hF
  have HP:=Vh hp
  clear S hC hs hF hp
  go_enter Tryz.func106,Tryz.ntmps106
  go_wp2_with (go_at_call 137;refine HS.out.mono ?_;rintro e w' ⟨rfl,rfl⟩)
  refine (Qcz HC.out.own 7 0 0 0).mono ?_
  rintro e w2 ⟨rfl,c2⟩
  have HC2:=Vh c2
  clear c2
  go_wp2_with fail
  refine (Qfx HC.out HF.out HC2.out _ HP.out).mono ?_
  rintro e w4 ⟨v,rfl,hv⟩
  go_wp2_with fail
  go_ret
  exact ⟨_,rfl,hv⟩
theorem djump (i:Ins) (ha:0≤i.a∧i.a<8) (hb:0≤i.b∧i.b<8) (hi:0≤i.im∧i.im≤2147483647) (hp:Q.pc<2147483648):Calls Tryz.prog 103 #[.pointer (some ⟨kb,0,none⟩),.agg (insc i)] w (CoTo w kb pb qb F (if goV i.op (regA Q i.a) (regA Q i.b) then {Q with pc:=i.im.toNat} else YM Q) []):=by
 obtain ⟨na,hna⟩:∃n:Nat,i.a=(n:Int):=⟨i.a.toNat,by omega⟩
 obtain ⟨nb,hnb⟩:∃n:Nat,i.b=(n:Int):=⟨i.b.toNat,by omega⟩
 have ea:regA Q i.a=regN Q.rg na:=by unfold regA;rw [hna,Int.toNat_natCast]
 have eb:regA Q i.b=regN Q.rg nb:=by unfold regA;rw [hnb,Int.toNat_natCast]
 have la:na<8:=by omega
 have lb:nb<8:=by omega
 have la':(na:Int)<8:=by omega
 have lb':(nb:Int)<8:=by omega
 have h8:=hC.ok.h8
 have hb0:=hC.own
 have ob:=old hb0
 have HC:=Vh hC
 have HF:=Vh hF
 have HP:=Vh hp
 have HI:=Vh hi
 have hx:(w.alloc (.cells (insc i) 65)).heap[w.heap.size]? =some (.cells (insc i) 65 (0,0)):=by simp
 rw [ea,eb]
 have HCH:Chg [] w (w.alloc (.cells (insc i) 65)):=(Chg.refl [] w).alloc _
 have hb1:=HCH.keep hb0 (by simp)
 generalize hw1:w.alloc (.cells (insc i) 65)=w1 at hx hb1 HCH
 generalize hz:w.heap.size=p at hx
 have R1:∀y:Aft w1.heap.size w1,y.w.heap[p]? =some (.cells (insc i) 65 (0,0)):=fun y=>(y.block (old hx).lt).trans hx
 have R2:∀y:Aft w1.heap.size w1,y.w.heap[kb]? =some (.cells (coc Q.id Q.ru Q.rg pb Q.pr.length Q.pc qb Q.wt) 124 (0,0)):=fun y=>(y.block (old hb1).lt).trans hb1
 have HCH':=Vh HCH
 have ob1:=old hb1
 have ox1:=old hx
 have HG:=Vh (fun w=>ggo_any i.op (regN Q.rg na) (regN Q.rg nb) w)
 have him:=wrap_i64_im HI.out
 have hiN:i.im=((i.im.toNat:Nat):Int):=by have:=HI.out;omega
 have HIN:=Vh hiN
 clear hC hF hp hi ha hb ea eb hiN HCH
 cases hg:goV i.op (regN Q.rg na) (regN Q.rg nb)
 ·rw [hg] at HG
  show Calls _ _ _ _ (CoTo w kb pb qb F (YM Q) [])
  clear hg
  go_enter Tryz.func103,Tryz.ntmps103
  go_wp2_with fail
  refine X8 w1.heap.size (by kernel_rfl) (by kernel_rfl) ?_
  repeat (go_big_quiet_step (first |(go_at_call 136;exact Jw (Nat.le_refl _) ((HG.out _).mono fun _ _ h=>⟨h.1,h.2▸Chg.mapW _ _⟩))))
  refine wpQuiet_nil ?_
  rintro _ ⟨y,rfl⟩
  have r2:=R2 y
  have hcy:=HCH'.out.trans (Below.chg y.below (Nat.le_refl _))
  have HCY:=Vh hcy
  clear hcy
  go_wp2_with fail
  refine (Qam (HC.out.keep0 HCY.out) (F:=F) (fun k h=>by have:=HF.out k h;have:=HCY.out.size;omega) HP.out).mono ?_
  rintro e w4 ⟨v,rfl,h1,h2,h3⟩
  go_wp2_with fail
  go_ret
  exact ⟨_,rfl,evv_mono h1 HCY.out.size,h2,(HCY.out.mono (by simp)).trans h3⟩
 ·rw [hg] at HG
  show Calls _ _ _ _ (CoTo w kb pb qb F {Q with pc:=i.im.toNat} [])
  clear hg
  go_enter Tryz.func103,Tryz.ntmps103
  go_wp2_with fail
  refine X8 w1.heap.size (by kernel_rfl) (by kernel_rfl) ?_
  repeat (go_big_quiet_step (first |(go_at_call 136;exact Jw (Nat.le_refl _) ((HG.out _).mono fun _ _ h=>⟨h.1,h.2▸Chg.mapW _ _⟩))))
  refine wpQuiet_nil ?_
  rintro _ ⟨y,rfl⟩
  have r1:=R1 y
  have r2:=R2 y
  have hcy:=HCH'.out.trans (Below.chg y.below (Nat.le_refl _))
  have HCY:=Vh hcy
  clear hcy
  go_wp2_with fail
  go_ret
  refine ⟨_,rfl,EvV.nil ..,?_,(HCY.out.mono (by simp)).setCell kb _ _ (.inl (by simp))⟩
  have hc:=(Chg.refl [kb] y.w).setCell kb 11 (.int .i64 i.im) (.inl (by simp))
  have h2:=HC.out.keep0 HCY.out
  refine ⟨?_,h2.steps.keep hc (by simp [h2.kp.symm]),h2.buf.keep hc (by simp [h2.kq.symm]),h2.kp,h2.kq,h2.pq,⟨h2.ok.h8,?_,h2.ok.np,h2.ok.pr,h2.ok.wt,h2.ok.id,⟨h2.ok.pos.rg,h2.ok.pos.es⟩⟩⟩
  ·rw [heap_setCell,if_pos rfl,r2,Qf,QT h8]
   show some (Obj.cells (coc Q.id Q.ru Q.rg pb Q.pr.length i.im qb Q.wt) _ _)=some (Obj.cells (coc Q.id Q.ru Q.rg pb Q.pr.length (i.im.toNat:Nat) qb Q.wt) _ _)
   rw [←HIN.out]
  ·show i.im.toNat≤_
   have:=HI.out
   omega
end
end
section
set_option maxRecDepth 100000
attribute [local go_sem ↓] Qv QF Qx QP QG Qs Qk Qh heap_alloc Ql heap_setCell Qc X7 Xl Xd ZF Yj Xs Yi Xr X1 X0 XW XX XY Xe XK XJ XI Xg Yq Yr Yp Ym Yn YC Yy Xv YA YB Yz Yx
attribute [local go_sem] Qb Qa Qe Qi Qd Qg Qf QB Qw QN QL QM Q6 QJ QA Qr QD QX QI Qq QC Qp Qj Qo Qn XV Xb Yh Q5 Xm Xn JC XZ ZU ZT ZS ZR X6 X5 X2 X3 X4 QE ZI Xf ZJ XH Q8 Xt Yo Xu JP Z3 Z2 Z1 Z0 ZZ Yv Yw Yu Ys Yt ZY QS QT QR QK Qt Zk
attribute [local simp ↓] Qk Qh heap_alloc Ql heap_setCell Qc
attribute [local simp] Qb Qa Qe Qi Qd Qg Qf Qr Qj Qo Qn Q5 QE Q8 QS QT QR QK Qt QD
attribute [local go_sem ↓] Qh
theorem sbE_same {room:Nat} {es:List Se} {e:Se} (h:sbV room es e≠0):sbE room es e=es:=by
 unfold sbV at h
 unfold sbE
 split
 ·rename_i h1
  rw [if_pos h1] at h
  split
  ·rfl
  ·rename_i h2
   rw [if_neg h2] at h
   exact absurd rfl h
 ·rfl
theorem Cor.entries {w w':World} {kb pb qb:Nat} {Q:Co} {es':List Se} (h:Cor w kb pb qb Q) (hc:Chg [qb] w w') (hb:Buf w' qb Q.rm es') (hp:∀e∈es',0≤e.va):Cor w' kb pb qb {Q with es:=es'}:=
 ⟨hc.keep h.own (by simp [h.kq]),h.steps.keep hc (by simp [h.pq]),hb,h.kp,h.kq,h.pq,⟨h.ok.h8,h.ok.pc,h.ok.np,h.ok.pr,h.ok.wt,h.ok.id,⟨h.ok.pos.rg,hp⟩⟩⟩
theorem CoTo.from {w w4:World} {kb pb qb:Nat} {F:List Nat} {Q':Co} {l:List Ev} {e:Ending} {w':World} (hc:Chg [kb,pb,qb] w w4) (h:CoTo w4 kb pb qb F Q' l e w'):CoTo w kb pb qb F Q' l e w':=by
 obtain ⟨v,he,h1,h2,h3⟩:=h
 exact ⟨v,he,evv_mono h1 hc.size,h2,hc.trans h3⟩
section
variable {w:World} {kb pb qb:Nat} {F:List Nat} {Q:Co} (hC:Cor w kb pb qb Q) (hF:∀k∈F,k<w.heap.size)
include hC hF
theorem dput (kd:Int) (x:Se) (hx0:0≤x.va) (hp:Q.pc<2147483648):Calls Tryz.prog 141 #[.pointer (some ⟨kb,0,none⟩),.int .i64 kd,.agg (sec x)] w (CoTo w kb pb qb F (if sbV Q.rm Q.es x=0 then YM {Q with es:=sbE Q.rm Q.es x} else Q) (if sbV Q.rm Q.es x=0 then [evC Q kd x.li x.wo x.va] else [])):=by
 have h8:=hC.ok.h8
 have hs:(w.alloc (.cells (sec x) 165)).heap[w.heap.size]? =some (.cells (sec x) 165 (0,0)):=by simp
 have HCH:Chg [] w (w.alloc (.cells (sec x) 165)):=(Chg.refl [] w).alloc _
 have HC1:=Vh (hC.keep0 HCH)
 have hb1:=HC1.out.own
 have HF:=Vh hF
 have HP:=Vh hp
 have HX0:=Vh hx0
 have HPE:=Vh (show ∀e∈sbE Q.rm Q.es x,0≤e.va by
  intro e he
  unfold sbE at he
  split at he
  ·split at he
   ·exact hC.ok.pos.es e he
   ·rcases List.mem_append.1 he with h1|h1
    ·exact hC.ok.pos.es e h1
    ·simp only [List.mem_singleton] at h1;subst h1;exact hx0
  ·exact hC.ok.pos.es e he)
 have HN:=Vh (show w.heap.size≠kb∧w.heap.size≠qb from by have h1:=hC.oldk.lt;have h2:=hC.oldq.lt;omega)
 have HKQ:=Vh hC.kq
 have HS:=Vh (fun h=>sbE_same (room:=Q.rm) (es:=Q.es) (e:=x) h)
 have HPU:=Vh (fun (w':World) (h:Chg [] (w.alloc (.cells (sec x) 165)) w')=>spush_ok x (HC1.out.buf.keep h (by simp)))
 have HC0:=Vh HCH
 clear hC hF hp hx0 HCH
 generalize hw1:w.alloc (.cells (sec x) 165)=w1 at *
 generalize hz:w.heap.size=p at *
 generalize sbV Q.rm Q.es x=sv at *
 generalize sbE Q.rm Q.es x=sE at *
 have ok1:=old hb1
 have op1:=old hs
 have n1:¬p=kb:=HN.out.1
 have n2:¬kb=p:=fun e=>HN.out.1 e.symm
 by_cases h0:sv=0
 ·rw [if_pos h0,if_pos h0]
  subst h0
  go_enter Tryz.func141,Tryz.ntmps141
  go_wp2_with fail
  go_region_held3 (fun w'=>w'.heap[kb]? =some (.cells (coc Q.id Q.ru Q.rg pb Q.pr.length Q.pc qb Q.wt) 124 (0,0))∧w'.heap[p]? =some (.cells (sec x) 165 (0,0)))
   (first |exact ⟨hb1,hs⟩|exact ⟨c4.keep hb1 (by simpa using HKQ.out),c4.keep hs (by simpa using HN.out.2)⟩)
   (first
    |(go_at_call 194;refine (HPU.out _ ((Chg.refl [] w1).drew)).mono ?_;rintro e w4 ⟨rfl,c4,b4⟩))
  all_goals
   rename World=>w4
   rename _∧_=>hHeld
   have hb4:=hHeld.1
   have hs4:=hHeld.2
   have HC4:=Vh ((HC1.out.keep0 ((Chg.refl [] w1).drew)).entries c4 b4 HPE.out)
   have HG4:=Vh ((HC0.out.mono (l':=[kb,pb,qb]) (by simp)).trans (((Chg.refl [kb,pb,qb] w1).drew).trans (c4.mono (by simp))))
   have HF4:=Vh (show ∀k∈F,k<w4.heap.size from fun k h=>by have h1:=HF.out k h;have h2:=HG4.out.size;omega)
   have HZ4:=Vh (show Old w4 p from old hs4)
   clear hHeld c4 b4 hs hb1
   go_wp2_with fail
   refine (Qcz hb4 kd x.li x.wo x.va).mono ?_
   rintro e w5 ⟨rfl,c5⟩
   have HC5:=Vh c5
   clear c5
   go_wp2_with fail
   refine (Qfx HC4.out HF4.out HC5.out _ HP.out).mono ?_
   rintro e w6 ⟨v,rfl,hv⟩
   go_wp2_with fail
   go_ret
   exact CoTo.from HG4.out ⟨v,rfl,hv⟩
 ·rw [if_neg h0,if_neg h0]
  have hsv:(sv !=0)=true:=by simpa using h0
  have HES:=Vh (HS.out h0)
  clear h0
  go_enter Tryz.func141,Tryz.ntmps141
  go_wp2_with fail
  go_region_held3 (fun w'=>w'.heap[kb]? =some (.cells (coc Q.id Q.ru Q.rg pb Q.pr.length Q.pc qb Q.wt) 124 (0,0))∧w'.heap[p]? =some (.cells (sec x) 165 (0,0)))
   (first |exact ⟨hb1,hs⟩|exact ⟨c4.keep hb1 (by simpa using HKQ.out),c4.keep hs (by simpa using HN.out.2)⟩)
   (first
    |(go_at_call 194;refine (HPU.out _ ((Chg.refl [] w1).drew)).mono ?_;rintro e w4 ⟨rfl,c4,b4⟩))
  all_goals
   rename World=>w4
   rename _∧_=>hHeld
   have HC4:=Vh ((HC1.out.keep0 ((Chg.refl [] w1).drew)).entries c4 b4 HPE.out)
   have HG4:=Vh ((HC0.out.mono (l':=[kb,pb,qb]) (by simp)).trans (((Chg.refl [kb,pb,qb] w1).drew).trans (c4.mono (by simp))))
   clear hHeld c4 b4 hs hb1
   go_wp2_with fail
   go_ret
   refine ⟨_,rfl,EvV.nil ..,?_,HG4.out⟩
   have:=HC4.out
   rw [HES.out] at this
   exact this
end
end
section
set_option maxRecDepth 100000
attribute [local go_sem ↓] Qv QF Qx QP QG Qs Qk Qh heap_alloc Ql heap_setCell Qc X7 Xl Xd ZF Yj Xs Yi Xr X1 X0 XW XX XY Xe XK XJ XI Xg Yq Yr Yp Ym Yn YC Yy Xv YA YB Yz Yx
attribute [local go_sem] Qb Qa Qe Qi Qd Qg Qf QB Qw QN QL QM Q6 QJ QA Qr QD QX QI Qq QC Qp Qj Qo Qn XV Xb Yh Q5 Xm Xn JC XZ ZU ZT ZS ZR X6 X5 X2 X3 X4 QE ZI Xf ZJ XH Q8 Xt Yo Xu JP Z3 Z2 Z1 Z0 ZZ Yv Yw Yu Ys Yt ZY QS QT QR QK Qt Zk
attribute [local simp ↓] Qk Qh heap_alloc Ql heap_setCell Qc
attribute [local simp] Qb Qa Qe Qi Qd Qg Qf Qr Qj Qo Qn Q5 QE Q8 QS QT QR QK Qt QD
attribute [local go_sem ↓] Qh ZP Zu Xq Xp
attribute [local go_sem] ZM QH ZO
theorem chear_nil (m:Ms) (w:World):Calls Tryz.prog 83 #[.pointer none,.agg (msc m)] w fun e w'=>e=.returned (.slice none 0 0)∧Chg [] w w':=by
 go_enter Tryz.func83,Tryz.ntmps83
 go_wp2_with (go_at_call 65;refine (cwaits_nil _).mono ?_;rintro e w' ⟨rfl,rfl⟩)
 go_ret
 exact ⟨rfl,(Chg.refl [] w).alloc _⟩
section
variable {w:World} {kb pb qb:Nat} {F:List Nat} {Q:Co} (hC:Cor w kb pb qb Q)
include hC
theorem dendFlush:Calls Tryz.prog 110 #[.pointer (some ⟨kb,0,none⟩)] w fun e w'=>e=.returned (.tuple #[])∧Cor w' kb pb qb (if Q.wt=0 then {Q with es:=Q.es.tail} else Q)∧Chg [qb] w w':=by
 have h8:=hC.ok.h8
 have hb:=hC.own
 have HC:=Vh hC
 have hw:((Q.wt:Int)==0)=decide (Q.wt=0):=by rw [Bool.eq_iff_iff];simp
 clear hC
 by_cases h0:Q.wt=0
 ·rw [if_pos h0]
  rw [decide_eq_true h0] at hw
  clear h0
  go_enter Tryz.func110,Tryz.ntmps110
  go_wp2_with (go_at_call 144;refine (spop_ok HC.out.buf).mono ?_;rintro e w2 ⟨rfl,c2,b2⟩)
  go_end0
  exact ⟨rfl,HC.out.entries c2 b2 (fun e he=>HC.out.ok.pos.es e (List.mem_of_mem_tail he)),c2⟩
 ·rw [if_neg h0]
  rw [decide_eq_false h0] at hw
  clear h0
  go_enter Tryz.func110,Tryz.ntmps110
  go_wp2_with fail
  go_end0
  exact ⟨rfl,HC.out,Chg.refl _ _⟩
theorem dchanged (i:Ins) (ha:0≤i.a∧i.a<8) (hc:0≤i.c∧i.c<8) (old':Int):Calls Tryz.prog 196 #[.pointer (some ⟨kb,0,none⟩),.agg (insc i),.int .u64 old'] w fun e w'=>e=.returned (.tuple #[.int .u64 (chgV Q i old'),.bool (chgB Q i old')])∧Chg [] w w':=by
 obtain ⟨na,hna⟩:∃n:Nat,i.a=(n:Int):=⟨i.a.toNat,by omega⟩
 obtain ⟨nc,hnc⟩:∃n:Nat,i.c=(n:Int):=⟨i.c.toNat,by omega⟩
 have ea:regA Q i.a=regN Q.rg na:=by unfold regA;rw [hna,Int.toNat_natCast]
 have ec:regA Q i.c=regN Q.rg nc:=by unfold regA;rw [hnc,Int.toNat_natCast]
 have la:na<8:=by omega
 have lc:nc<8:=by omega
 have la':(na:Int)<8:=by omega
 have lc':(nc:Int)<8:=by omega
 unfold chgV chgB
 rw [ea,ec]
 have h8:=hC.ok.h8
 have hb:=hC.own
 have ob:=old hb
 have hx:(w.alloc (.cells (insc i) 65)).heap[w.heap.size]? =some (.cells (insc i) 65 (0,0)):=by simp
 have HCH:Chg [] w (w.alloc (.cells (insc i) 65)):=(Chg.refl [] w).alloc _
 have hb1:=HCH.keep hb (by simp)
 have HC1:=Vh HCH
 clear hC ha hc ea ec HCH
 generalize hw1:w.alloc (.cells (insc i) 65)=w1 at hx hb1 HC1
 generalize hz:w.heap.size=p at hx
 have ob1:=old hb1
 have ox1:=old hx
 by_cases h0:i.op=10
 ·rw [if_pos h0,if_pos h0]
  go_enter Tryz.func196,Tryz.ntmps196
  go_wp2_with fail
  go_quiet (fail)
  go_wp2_with fail
  go_ret2
  exact ⟨rfl,HC1.out.drewN _⟩
 ·rw [if_neg h0,if_neg h0]
  have h10:(i.op==10)=false:=by simpa using h0
  clear h0
  go_enter Tryz.func196,Tryz.ntmps196
  go_wp2_with fail
  go_quiet (fail)
  go_wp2_with fail
  go_ret2
  exact ⟨rfl,HC1.out.drewN _⟩
theorem dhear (hF:∀k∈F,k<w.heap.size) (m:Ms):Calls Tryz.prog 83 #[.pointer (some ⟨kb,0,none⟩),.agg (msc m)] w (CoTo w kb pb qb F (Qdh Q m).1 (Qdh Q m).2):=by
 have h8:=hC.ok.h8
 have hb:=hC.own
 have ob:=old hb
 have hx:(w.alloc (.cells (msc m) 184)).heap[w.heap.size]? =some (.cells (msc m) 184 (0,0)):=by simp
 have HCH:Chg [] w (w.alloc (.cells (msc m) 184)):=(Chg.refl [] w).alloc _
 have HC:=Vh (hC.keep0 HCH)
 have hb1:=HC.out.own
 have HC1:=Vh HCH
 have HF:=Vh hF
 have HWT:=Vh hC.ok.wt
 clear hC HCH hF hb
 generalize hw1:w.alloc (.cells (msc m) 184)=w1 at hx hb1 HC1 HC
 generalize hz:w.heap.size=p at hx HF
 have ob1:=old hb1
 have ox1:=old hx
 have n1:¬p=kb:=by have:=ob.lt;omega
 by_cases h0:Q.wt=0
 ·rw [show Qdh Q m=(Q,[]) by unfold Qdh;rw [if_pos (.inl h0)]]
  have hw:((Q.wt:Int)==0)=true:=by simp [h0]
  clear h0
  go_enter Tryz.func83,Tryz.ntmps83
  go_wp2_with (go_at_call 65;refine (cwaits h8 hb1).mono ?_;rintro e w' ⟨rfl,rfl⟩)
  go_ret
  exact ⟨_,rfl,EvV.nil ..,HC.out,HC1.out.mono (by simp)⟩
 have hw:((Q.wt:Int)==0)=false:=by simp [h0]
 by_cases h1:m.kd=14
 ·rw [show Qdh Q m=({Q with wt:=Q.wt-1},[evC Q 6 m.li 0 0]) by unfold Qdh;rw [if_neg (fun h=>h.elim h0 (fun h=>h h1))]]
  have HW0:=Vh h0
  have hk:(m.kd !=14)=false:=by simp [h1]
  have hwt:(Q.wt:Int)-1=((Q.wt-1:Nat):Int):=by omega
  have HB2:=Vh (show (w1.setCell ⟨kb,13,none⟩ (.int .i64 ((Q.wt-1:Nat):Int))).heap[kb]? =some (.cells (coc Q.id Q.ru Q.rg pb Q.pr.length Q.pc qb ((Q.wt-1:Nat):Int)) 124 (0,0)) by rw [heap_setCell,if_pos rfl,hb1,Qf,QR h8])
  have hr1: -9223372036854775808≤(Q.wt:Int)-1:=by omega
  have hr2:(Q.wt:Int)-1≤9223372036854775807:=by have:=HWT.out;omega
  clear h0 h1
  go_enter Tryz.func83,Tryz.ntmps83
  go_wp2_with (go_at_call 65;refine (cwaits h8 hb1).mono ?_;rintro e w' ⟨rfl,rfl⟩)
  have HZ2:=Vh (show (w1.setCell ⟨kb,13,none⟩ (.int .i64 ((Q.wt-1:Nat):Int))).heap.size=w1.heap.size by simp)
  have hx2:(w1.setCell ⟨kb,13,none⟩ (.int .i64 ((Q.wt-1:Nat):Int))).heap[p]? =some (.cells (msc m) 184 (0,0)):=by rw [heap_setCell,if_neg n1];exact hx
  have HG2:=Vh ((Chg.refl [kb] w1).setCell kb 13 (.int .i64 ((Q.wt-1:Nat):Int)) (.inl (by simp)))
  generalize w1.setCell ⟨kb,13,none⟩ (.int .i64 ((Q.wt-1:Nat):Int))=w2 at HB2 hx2 HG2 HZ2 ⊢
  have HC2:=Vh (show Cor w2 kb pb qb {Q with wt:=Q.wt-1} from ⟨HB2.out,HC.out.steps.keep HG2.out (by simp [HC.out.kp.symm]),HC.out.buf.keep HG2.out (by simp [HC.out.kq.symm]),HC.out.kp,HC.out.kq,HC.out.pq,⟨HC.out.ok.h8,HC.out.ok.pc,HC.out.ok.np,HC.out.ok.pr,by show Q.wt-1≤16;have:=HWT.out;omega,HC.out.ok.id,⟨HC.out.ok.pos.rg,HC.out.ok.pos.es⟩⟩⟩)
  clear hb1 hx ob1 ox1 hwt hr1 hr2
  refine (Qcz HB2.out 6 m.li 0 0).mono ?_
  rintro e w3 ⟨rfl,c3⟩
  have HC3:=Vh c3
  clear c3
  go_wp2_with fail
  go_ret
  have hs:=HC3.out.size
  have hk:=HC2.out.oldk.lt
  have hsz:=HC1.out.size
  have hzz:=HZ2.out
  have c4:Chg [] w2 (w3.alloc (.cells (evc ⟨6,Q.id,m.li,0,0⟩) 48)):=HC3.out.alloc _
  refine ⟨_,rfl,EvV.one (by simp;rfl) (by omega) (by omega) (fun h=>by have:=HF.out _ h;omega),HC2.out.keep0 c4,?_⟩
  exact ((HC1.out.mono (by simp)).trans (HG2.out.mono (by simp))).trans (c4.mono (by simp))
 ·rw [show Qdh Q m=(Q,[]) by unfold Qdh;rw [if_pos (.inr h1)]]
  have hk:(m.kd !=14)=true:=by simp [h1]
  clear h0 h1
  go_enter Tryz.func83,Tryz.ntmps83
  go_wp2_with (go_at_call 65;refine (cwaits h8 hb1).mono ?_;rintro e w' ⟨rfl,rfl⟩)
  go_ret
  exact ⟨_,rfl,EvV.nil ..,HC.out,HC1.out.mono (by simp)⟩
end
end
section
set_option maxRecDepth 100000
attribute [local go_sem ↓] Qv QF Qx QP QG Qs Qk Qh heap_alloc Ql heap_setCell Qc X7 Xl Xd ZF Yj Xs Yi Xr X1 X0 XW XX XY Xe XK XJ XI Xg Yq Yr Yp Ym Yn YC Yy Xv YA YB Yz Yx
attribute [local go_sem] Qb Qa Qe Qi Qd Qg Qf QB Qw QN QL QM Q6 QJ QA Qr QD QX QI Qq QC Qp Qj Qo Qn XV Xb Yh Q5 Xm Xn JC XZ ZU ZT ZS ZR X6 X5 X2 X3 X4 QE ZI Xf ZJ XH Q8 Xt Yo Xu JP Z3 Z2 Z1 Z0 ZZ Yv Yw Yu Ys Yt ZY QS QT QR QK Qt Zk
attribute [local simp ↓] Qk Qh heap_alloc Ql heap_setCell Qc
attribute [local simp] Qb Qa Qe Qi Qd Qg Qf Qr Qj Qo Qn Q5 QE Q8 QS QT QR QK Qt QD
attribute [local go_sem ↓] Qh
structure CS (W w:World) (c:Cg) (sy:Nat) (F:List Nat) (S:Mst) (kb pb qb:Nat) (Q:Co):Prop where
 ms:MS W w c sy F S
 co:Cor w kb pb qb Q
 nk:kb∉F
 np:pb∉F
 nq:qb∉F
 lk:W.heap.size≤kb
 lp:W.heap.size≤pb
 lq:W.heap.size≤qb
def CSTo (W w:World) (c:Cg) (sy:Nat) (F:List Nat) (kb pb qb:Nat) (S':Mst) (Q':Co) (l:List Ev) (e:Ending) (w':World):Prop:=
 ∃v F',e=.returned v∧EvV w' w.heap.size kb F' v l∧CS W w' c sy F' S' kb pb qb Q'∧Chg (kb::pb::qb::F) w w'∧∀k∈F',k∈F∨w.heap.size≤k
section
variable {W w:World} {c:Cg} {sy:Nat} {F:List Nat} {S:Mst} {kb pb qb:Nat} {Q:Co} (h:CS W w c sy F S kb pb qb Q)
include h
theorem CS.old:∀k∈F,k<w.heap.size:=Mem.old h.ms
theorem CS.keep0 {w':World} (hc:Chg [] w w'):CS W w' c sy F S kb pb qb Q:=⟨Mem.keep h.ms hc,h.co.keep0 hc,h.nk,h.np,h.nq,h.lk,h.lp,h.lq⟩
theorem CS.core {w':World} {Q':Co} (hc:Chg [kb,pb,qb] w w') (hC:Cor w' kb pb qb Q'):CS W w' c sy F S kb pb qb Q':=
 ⟨Mem.keepL h.ms hc (by
  intro k hk
  simp only [List.mem_cons,Vn,or_false] at hk
  rcases hk with rfl|rfl|rfl
  ·exact h.nk
  ·exact h.np
  ·exact h.nq) (by
  intro k hk
  simp only [List.mem_cons,Vn,or_false] at hk
  rcases hk with rfl|rfl|rfl
  ·exact h.lk
  ·exact h.lp
  ·exact h.lq),hC,h.nk,h.np,h.nq,h.lk,h.lp,h.lq⟩
theorem CS.ofCo {Q':Co} {l:List Ev} {e:Ending} {w':World} (hd:CoTo w kb pb qb F Q' l e w'):CSTo W w c sy F kb pb qb S Q' l e w':=by
 obtain ⟨v,he,h1,h2,h3⟩:=hd
 exact ⟨v,F,he,h1,h.core h3 h2,h3.mono (by intro x hx;left;simp only [List.mem_cons,Vn,or_false] at hx ⊢;rcases hx with rfl|rfl|rfl<;>simp),fun k hk=>.inl hk⟩
theorem CS.step {S':Mst} {w':World} (m:MTS W w c sy F S' w'):∃F',CS W w' c sy F' S' kb pb qb Q∧Chg F w w'∧∀k∈F',k∈F∨w.heap.size≤k:=by
 obtain ⟨F',hm,hc,hk⟩:=m
 have ne:∀b,b∉F→b<w.heap.size→b∉F':=fun b hb hl hm=>by
  rcases hk b hm with h1|h1
  ·exact hb h1
  ·omega
 exact ⟨F',⟨hm,h.co.keep hc h.nk h.np h.nq,ne _ h.nk h.co.oldk.lt,ne _ h.np h.co.oldp.lt,ne _ h.nq h.co.oldq.lt,h.lk,h.lp,h.lq⟩,hc,hk⟩
end
theorem CSTo.from {W w w4:World} {c:Cg} {sy:Nat} {F F4:List Nat} {kb pb qb:Nat} {S':Mst} {Q':Co} {l:List Ev} {e:Ending} {w':World} (hc:Chg (kb::pb::qb::F) w w4) (hF:∀k∈F4,k∈F∨w.heap.size≤k) (h:CSTo W w4 c sy F4 kb pb qb S' Q' l e w'):CSTo W w c sy F kb pb qb S' Q' l e w':=by
 obtain ⟨v,F',he,h1,h2,h3,h4⟩:=h
 refine ⟨v,F',he,evv_mono h1 hc.size,h2,hc.trans' h3 ?_,?_⟩
 ·intro x hx
  simp only [List.mem_cons] at hx ⊢
  rcases hx with rfl|rfl|rfl|hx
  ·simp
  ·simp
  ·simp
  ·rcases hF x hx with h5|h5
   ·exact .inl (.inr (.inr (.inr h5)))
   ·exact .inr h5
 ·intro k hk
  rcases h4 k hk with h5|h5
  ·exact hF k h5
  ·exact .inr (Nat.le_trans hc.size h5)
theorem Z7 {kb pb qb:Nat} {F:List Nat} {w w':World} (hc:Chg [kb,pb,qb] w w'):Chg (kb::pb::qb::F) w w':=hc.mono (by intro x hx;left;simp only [List.mem_cons,Vn,or_false] at hx ⊢;rcases hx with rfl|rfl|rfl<;>simp)
theorem Qbm {kb pb qb:Nat} {F:List Nat} {w w':World} (hc:Chg F w w'):Chg (kb::pb::qb::F) w w':=hc.mono (by intro x hx;left;simp [hx])
theorem Cor.setReg {w:World} {kb pb qb:Nat} {Q:Co} (h:Cor w kb pb qb Q) {a:Nat} (ha:a<8) {v:Int} (hv:0≤v):Cor (w.setCell ⟨kb,2+a,none⟩ (.int .u64 v)) kb pb qb (setR Q a v):=by
 have hc:=(Chg.refl [kb] w).setCell kb (2+a) (.int .u64 v) (.inl (by simp))
 refine ⟨?_,h.steps.keep hc (by simp [h.kp.symm]),h.buf.keep hc (by simp [h.kq.symm]),h.kp,h.kq,h.pq,⟨by show (Q.rg.set _ v).length=8;rw [List.length_set];exact h.ok.h8,h.ok.pc,h.ok.np,h.ok.pr,h.ok.wt,h.ok.id,h.ok.pos.setR a hv⟩⟩
 rw [heap_setCell,if_pos rfl,h.own,Qf,QK h.ok.h8 _ _ _ _ _ _ _ ha]
 rfl
section
variable {W w:World} {c:Cg} {sy n:Nat} {F:List Nat} {S:Mst} {cur:Nat→List Int} {kb pb qb:Nat} {Q:Co} (h:CS W w c sy F S kb pb qb Q) (hI:Inv c n S cur) (hN:NN cur) (hn:n≤1000000000) (hR:Roomy c S) (hT:Tab W)
include h hI hN hn hR hT
theorem eload (a:Int) (ha:0≤a∧a<8) (li wo:Int) (hp:Q.pc<2147483648):Calls Tryz.prog 140 #[.pointer (some ⟨kb,0,none⟩),.pointer (some ⟨sy,0,none⟩),.int .i64 a,.int .i64 li,.int .i64 wo] w (CSTo W w c sy F kb pb qb (Qgg c S Q a li wo).S (Qgg c S Q a li wo).Q (Qgg c S Q a li wo).ev):=by
 obtain ⟨na,rfl⟩:∃n:Nat,a=(n:Int):=⟨a.toNat,by omega⟩
 have la:na<8:=by omega
 have la':(na:Int)<8:=by omega
 have h8:=h.co.ok.h8
 have hb:=h.co.own
 have H:=Vh h
 have HP:=Vh hp
 have SF:=Vh (sfind_ok li wo h.co.buf)
 unfold Qgg
 cases hf:fdO Q.es li wo with
 |some x=>
  have hv0:0≤x.va:=h.co.ok.pos.es x (fdO_mem hf)
  have HV:=Vh hv0
  rw [show fdV Q.es li wo=x.va by unfold fdV;rw [hf],show fdB Q.es li wo=true by unfold fdB;rw [hf];rfl] at SF
  show Calls _ _ _ _ (CSTo W w c sy F kb pb qb S (YM (setR Q na x.va)) [evC Q 2 li wo x.va])
  clear h hI hN hn hR hT hf hv0 ha hp
  generalize x.va=v at *
  go_enter Tryz.func140,Tryz.ntmps140
  try dsimp only [List.append]
  go_wp2_with (go_at_call 192;refine SF.out.mono ?_;rintro e w1 ⟨rfl,c1⟩;have hb1:=c1.keep hb (by simp);have H1:=Vh (H.out.keep0 c1);have HC1:=Vh (show Chg (kb::pb::qb::F) w w1 from c1.mono (by simp));have HF1:=Vh (show ∀k∈F,k∈F∨w.heap.size≤k from fun k hk=>.inl hk);clear c1 hb)
  have HCO:=Vh (H1.out.co.setReg la HV.out)
  refine (Qcz HCO.out.own 2 li wo v).mono ?_
  rintro e w3 ⟨rfl,c3⟩
  have HC3:=Vh c3
  clear c3
  go_wp2_with fail
  refine (Qfx HCO.out (F:=F) (fun k hk=>by have:=H1.out.old k hk;simp;omega) HC3.out _ HP.out).mono ?_
  rintro e w4 ⟨u,rfl,hv⟩
  go_wp2_with fail
  go_ret
  exact CSTo.from HC1.out HF1.out (H1.out.ofCo (CoTo.from ((Chg.refl [kb,pb,qb] w1).setCell kb (2+na) (.int .u64 v) (.inl (by simp))) ⟨u,rfl,hv⟩))
 |none=>
  rw [show fdV Q.es li wo=0 by unfold fdV;rw [hf],show fdB Q.es li wo=false by unfold fdB;rw [hf];rfl] at SF
  have UL:=Vh (fun (w1:World) (c1:Chg [] w w1)=>uload (h.keep0 c1).ms hI hn hR hT Q.id li wo)
  have HV0:=Vh (fun hh=>NN.load hI hN (k:=Q.id) (li:=li) (wd:=wo) hh)
  dsimp only
  generalize (loadM c S Q.id li wo).1=S1 at *
  generalize (loadM c S Q.id li wo).2.v=v at *
  generalize (loadM c S Q.id li wo).2.hit=hit at *
  cases hit
  ·show Calls _ _ _ _ (CSTo W w c sy F kb pb qb S1 Q [])
   clear h hI hN hn hR hT hf ha hp
   go_enter Tryz.func140,Tryz.ntmps140
   try dsimp only [List.append]
   go_wp2_with (first |(go_at_call 192;refine SF.out.mono ?_;rintro e w1 ⟨rfl,c1⟩;have hb1:=c1.keep hb (by simp);have HC1:=Vh c1;clear c1 hb)|(go_at_call 193;refine (UL.out _ HC1.out).mono ?_;rintro e w2 ⟨rfl,m2⟩;have HM2:=Vh m2;clear m2))
   go_ret
   obtain ⟨F2,h2,c2,k2⟩:=(H.out.keep0 HC1.out).step HM2.out
   exact CSTo.from (F4:=F2) ((HC1.out.mono (by simp)).trans (Qbm c2)) (fun k hk=>(k2 k hk).imp id (Nat.le_trans HC1.out.size)) ⟨_,F2,rfl,EvV.nil ..,h2,Chg.refl _ _,fun k hk=>.inl hk⟩
  ·have HV:=Vh (HV0.out rfl)
   show Calls _ _ _ _ (CSTo W w c sy F kb pb qb S1 (YM (setR Q na v)) [evC Q 1 li wo v])
   clear h hI hN hn hR hT hf ha hp
   go_enter Tryz.func140,Tryz.ntmps140
   try dsimp only [List.append]
   go_wp2_with (first |(go_at_call 192;refine SF.out.mono ?_;rintro e w0 ⟨rfl,c1⟩;have hb1:=c1.keep hb (by simp);have HC0:=Vh c1;clear c1 hb)|(go_at_call 193;refine (UL.out _ HC0.out).mono ?_;rintro e w1 ⟨rfl,m2⟩;obtain ⟨F2,h2,c2,k2⟩:=(H.out.keep0 HC0.out).step m2;have hb2:=h2.co.own;have H1:=Vh h2;have HC1:=Vh (show Chg (kb::pb::qb::F) w w1 from (HC0.out.mono (by simp)).trans (Qbm c2));have HF1:=Vh (show ∀k∈F2,k∈F∨w.heap.size≤k from fun k hk=>(k2 k hk).imp id (Nat.le_trans HC0.out.size));clear m2 h2 c2 k2 hb1))
   have HCO:=Vh (H1.out.co.setReg la HV.out)
   refine (Qcz HCO.out.own 1 li wo v).mono ?_
   rintro e w3 ⟨rfl,c3⟩
   have HC3:=Vh c3
   clear c3
   go_wp2_with fail
   refine (Qfx HCO.out (F:=F2) (fun k hk=>by have:=H1.out.old k hk;simp;omega) HC3.out _ HP.out).mono ?_
   rintro e w4 ⟨u,rfl,hv⟩
   go_wp2_with fail
   go_ret
   exact CSTo.from HC1.out HF1.out (H1.out.ofCo (CoTo.from ((Chg.refl [kb,pb,qb] w1).setCell kb (2+na) (.int .u64 v) (.inl (by simp))) ⟨u,rfl,hv⟩))
end
end
section
set_option maxRecDepth 100000
attribute [local go_sem ↓] Qv QF Qx QP QG Qs Qk Qh heap_alloc Ql heap_setCell Qc X7 Xl Xd ZF Yj Xs Yi Xr X1 X0 XW XX XY Xe XK XJ XI Xg Yq Yr Yp Ym Yn YC Yy Xv YA YB Yz Yx
attribute [local go_sem] Qb Qa Qe Qi Qd Qg Qf QB Qw QN QL QM Q6 QJ QA Qr QD QX QI Qq QC Qp Qj Qo Qn XV Xb Yh Q5 Xm Xn JC XZ ZU ZT ZS ZR X6 X5 X2 X3 X4 QE ZI Xf ZJ XH Q8 Xt Yo Xu JP Z3 Z2 Z1 Z0 ZZ Yv Yw Yu Ys Yt ZY QS QT QR QK Qt Zk
attribute [local simp ↓] Qk Qh heap_alloc Ql heap_setCell Qc
attribute [local simp] Qb Qa Qe Qi Qd Qg Qf Qr Qj Qo Qn Q5 QE Q8 QS QT QR QK Qt QD
attribute [local go_sem ↓] Qh
theorem casked (kd:Int) (w:World):Calls Tryz.prog 146 #[.int .i64 kd] w fun e w'=>e=.returned (.int .i64 (JS kd))∧w=w':=by
 unfold JS
 by_cases h:kd=12
 ·rw [if_pos h]
  subst h
  go_enter Tryz.func146,Tryz.ntmps146
  go_wp2
  go_ret
  exact ⟨rfl,rfl⟩
 ·rw [if_neg h]
  have h1:(kd==12)=false:=by simpa using h
  clear h
  go_enter Tryz.func146,Tryz.ntmps146
  go_wp2
  go_ret
  exact ⟨rfl,rfl⟩
theorem Cor.setWt {w:World} {kb pb qb:Nat} {Q:Co} (h:Cor w kb pb qb Q) {n:Nat} {v:Int} (hv:v=n) (hn:n≤16):Cor (w.setCell ⟨kb,13,none⟩ (.int .i64 v)) kb pb qb {Q with wt:=n}:=by
 subst hv
 have hc:=(Chg.refl [kb] w).setCell kb 13 (.int .i64 n) (.inl (by simp))
 refine ⟨?_,h.steps.keep hc (by simp [h.kp.symm]),h.buf.keep hc (by simp [h.kq.symm]),h.kp,h.kq,h.pq,⟨h.ok.h8,h.ok.pc,h.ok.np,h.ok.pr,hn,h.ok.id,⟨h.ok.pos.rg,h.ok.pos.es⟩⟩⟩
 rw [heap_setCell,if_pos rfl,h.own,Qf,QR h.ok.h8]
section
variable {W w:World} {c:Cg} {sy n:Nat} {F:List Nat} {S:Mst} {cur:Nat→List Int} {kb pb qb:Nat} {Q:Co} (h:CS W w c sy F S kb pb qb Q) (hI:Inv c n S cur) (hn:n≤1000000000) (hR:Roomy c S) (hT:Tab W) {x:Se} {rest:List Se} (hes:Q.es=x::rest)
include h hI hn hR hT hes
theorem estore:Calls Tryz.prog 109 #[.pointer (some ⟨kb,0,none⟩),.pointer (some ⟨sy,0,none⟩),.agg (sec x)] w (CSTo W w c sy F kb pb qb (storeM c S Q.id x.li x.wo x.va).1 (if (storeM c S Q.id x.li x.wo x.va).2.hit then {Q with es:=rest} else Q) (if (storeM c S Q.id x.li x.wo x.va).2.hit then [evC Q 3 x.li x.wo x.va] else [])):=by
 have hs:(w.alloc (.cells (sec x) 165)).heap[w.heap.size]? =some (.cells (sec x) 165 (0,0)):=by simp
 have HCH:Chg [] w (w.alloc (.cells (sec x) 165)):=(Chg.refl [] w).alloc _
 have HN:=Vh (show w.heap.size≠kb∧w.heap.size∉F∧w.heap.size≠qb from ⟨by have:=h.co.oldk.lt;omega,fun hm=>by have:=h.old _ hm;omega,by have:=h.co.oldq.lt;omega⟩)
 have H1:=Vh (h.keep0 HCH)
 have hb1:=H1.out.co.own
 have h8:=h.co.ok.h8
 have US:=Vh (fun (w':World) (c1:Chg [] (w.alloc (.cells (sec x) 165)) w')=>ustore (H1.out.keep0 c1).ms hI hn hR hT Q.id x.li x.wo x.va)
 have HES:=Vh hes
 have HPE:=Vh (show ∀e∈rest,0≤e.va from fun e he=>h.co.ok.pos.es e (by rw [hes];exact List.mem_cons_of_mem _ he))
 have HC1:=Vh HCH
 clear h hI hn hR hT hes HCH
 generalize hw1:w.alloc (.cells (sec x) 165)=w1 at *
 generalize hz:w.heap.size=p at *
 generalize (storeM c S Q.id x.li x.wo x.va).1=S1 at *
 generalize (storeM c S Q.id x.li x.wo x.va).2.hit=hit at *
 have ok1:=old hb1
 have op1:=old hs
 have n1:¬p=kb:=HN.out.1
 have n2:¬kb=p:=fun e=>HN.out.1 e.symm
 cases hit
 ·show Calls _ _ _ _ (CSTo W w c sy F kb pb qb S1 Q [])
  go_enter Tryz.func109,Tryz.ntmps109
  go_wp2_with fail
  go_region_held3 (fun w'=>w'.heap[kb]? =some (.cells (coc Q.id Q.ru Q.rg pb Q.pr.length Q.pc qb Q.wt) 124 (0,0))∧w'.heap[p]? =some (.cells (sec x) 165 (0,0)))
   (first |exact ⟨hb1,hs⟩|exact ⟨h4.co.own,c4.keep hs HN.out.2.1⟩)
   (first
    |(go_at_call 143;refine (US.out _ ((Chg.refl [] w1).drew)).mono ?_;rintro e w4 ⟨rfl,m4⟩;obtain ⟨F4,h4,c4,k4⟩:=(H1.out.keep0 ((Chg.refl [] w1).drew)).step m4))
  all_goals
   rename World=>w4
   rename _∧_=>hHeld
   have H4:=Vh h4
   have HG4:=Vh (show Chg (kb::pb::qb::F) w w4 from (HC1.out.mono (by simp)).trans (((Chg.refl _ w1).drew).trans (Qbm c4)))
   have HK4:=Vh (show ∀k∈F4,k∈F∨w.heap.size≤k from fun k hk=>(k4 k hk).imp id (Nat.le_trans HC1.out.size))
   clear hHeld c4 h4 k4 m4 hs hb1
   go_wp2_with fail
   go_ret
   exact CSTo.from HG4.out HK4.out ⟨_,F4,rfl,EvV.nil ..,H4.out,Chg.refl _ _,fun k hk=>.inl hk⟩
 ·show Calls _ _ _ _ (CSTo W w c sy F kb pb qb S1 {Q with es:=rest} [evC Q 3 x.li x.wo x.va])
  go_enter Tryz.func109,Tryz.ntmps109
  go_wp2_with fail
  go_region_held3 (fun w'=>w'.heap[kb]? =some (.cells (coc Q.id Q.ru Q.rg pb Q.pr.length Q.pc qb Q.wt) 124 (0,0))∧w'.heap[p]? =some (.cells (sec x) 165 (0,0)))
   (first |exact ⟨hb1,hs⟩|exact ⟨h4.co.own,c4.keep hs HN.out.2.1⟩)
   (first
    |(go_at_call 143;refine (US.out _ ((Chg.refl [] w1).drew)).mono ?_;rintro e w4 ⟨rfl,m4⟩;obtain ⟨F4,h4,c4,k4⟩:=(H1.out.keep0 ((Chg.refl [] w1).drew)).step m4))
  all_goals
   rename World=>w4
   rename _∧_=>hHeld
   have hb4:=hHeld.1
   have hs4:=hHeld.2
   have H4:=Vh h4
   have HG4:=Vh (show Chg (kb::pb::qb::F) w w4 from (HC1.out.mono (by simp)).trans (((Chg.refl _ w1).drew).trans (Qbm c4)))
   have HK4:=Vh (show ∀k∈F4,k∈F∨w.heap.size≤k from fun k hk=>(k4 k hk).imp id (Nat.le_trans HC1.out.size))
   clear hHeld c4 h4 k4 m4 hs hb1
   go_wp2_with fail
   refine (spop_ok H4.out.co.buf).mono ?_
   rintro e w5 ⟨rfl,c5,b5⟩
   rw [show Q.es.tail=rest by rw [HES.out];rfl] at b5
   have HC5:=Vh (H4.out.co.entries c5 b5 HPE.out)
   have HG5:=Vh c5
   have hb5:=HC5.out.own
   have hs5:=c5.keep hs4 (by simpa using HN.out.2.2)
   clear c5 b5 hb4 hs4
   go_wp2_with fail
   refine (Qcz hb5 3 x.li x.wo x.va).mono ?_
   rintro e w6 ⟨rfl,c6⟩
   have HC6:=Vh c6
   clear c6
   go_wp2_with fail
   go_ret
   have c7:Chg [] w5 (w6.alloc (.cells (evc ⟨3,Q.id,x.li,x.wo,x.va⟩) 48)):=HC6.out.alloc _
   have hk:=H4.out.co.oldk.lt
   have hs:=HC6.out.size
   have hg:=HG5.out.size
   refine CSTo.from HG4.out HK4.out (H4.out.ofCo (CoTo.from (HG5.out.mono (by simp)) ⟨_,rfl,EvV.one (by simp;rfl) (by omega) hs (fun hm=>by have:=H4.out.old _ hm;omega),HC5.out.keep0 c7,c7.mono (by simp)⟩))
theorem esend:Calls Tryz.prog 111 #[.pointer (some ⟨kb,0,none⟩),.pointer (some ⟨sy,0,none⟩),.agg (sec x)] w (CSTo W w c sy F kb pb qb (if 16≤Q.wt then S else (flushM c S Q.id x.li (JS x.kd)).1) (if 16≤Q.wt then Q else if (flushM c S Q.id x.li (JS x.kd)).2.e=0 then {Q with es:=(if x.kd=14 then sent x::rest else rest),wt:=Q.wt+1} else Q) (if 16≤Q.wt then [] else if (flushM c S Q.id x.li (JS x.kd)).2.e=0 then [evC Q 13 x.li 0 0] else [])):=by
 have hs:(w.alloc (.cells (sec x) 165)).heap[w.heap.size]? =some (.cells (sec x) 165 (0,0)):=by simp
 have HCH:Chg [] w (w.alloc (.cells (sec x) 165)):=(Chg.refl [] w).alloc _
 have HN:=Vh (show w.heap.size≠kb∧w.heap.size∉F∧w.heap.size≠qb from ⟨by have:=h.co.oldk.lt;omega,fun hm=>by have:=h.old _ hm;omega,by have:=h.co.oldq.lt;omega⟩)
 have H1:=Vh (h.keep0 HCH)
 have hb1:=H1.out.co.own
 have h8:=h.co.ok.h8
 have US:=Vh (fun (w':World) (c1:Chg [] (w.alloc (.cells (sec x) 165)) w')=>uflush (H1.out.keep0 c1).ms hI hn hR hT Q.id x.li (JS x.kd))
 have HES:=Vh hes
 have HPE:=Vh (show ∀e∈rest,0≤e.va from fun e he=>h.co.ok.pos.es e (by rw [hes];exact List.mem_cons_of_mem _ he))
 have HPX:=Vh (show 0≤x.va from h.co.ok.pos.es x (by rw [hes];exact List.mem_cons_self))
 have HC1:=Vh HCH
 have hwt:decide (16≤(Q.wt:Int))=decide (16≤Q.wt):=by rw [Bool.eq_iff_iff];simp;omega
 clear h hI hn hR hT hes HCH
 generalize hw1:w.alloc (.cells (sec x) 165)=w1 at *
 generalize hz:w.heap.size=p at *
 generalize (flushM c S Q.id x.li (JS x.kd)).1=S1 at *
 generalize (flushM c S Q.id x.li (JS x.kd)).2.e=fe at *
 generalize hwi:(Q.wt:Int)=wi at hb1 hwt
 have HWI:=Vh hwi
 clear hwi
 have ok1:=old hb1
 have op1:=old hs
 have n1:¬p=kb:=HN.out.1
 have n2:¬kb=p:=fun e=>HN.out.1 e.symm
 by_cases h16:16≤Q.wt
 ·rw [if_pos h16,if_pos h16,if_pos h16]
  rw [decide_eq_true h16] at hwt
  clear h16
  go_enter Tryz.func111,Tryz.ntmps111
  try dsimp only [List.append]
  go_wp2_with fail
  go_quiet (fail)
  go_wp2_with fail
  go_ret
  have hc:=HC1.out.drewN nq
  exact ⟨_,F,rfl,EvV.nil ..,H1.out.keep0 ((Chg.refl [] w1).drewN nq),hc.mono (by simp),fun k hk=>.inl hk⟩
 ·rw [if_neg h16,if_neg h16,if_neg h16]
  rw [decide_eq_false h16] at hwt
  have H16:=Vh h16
  clear h16
  by_cases hf:fe=0
  ·subst hf
   rw [if_pos rfl,if_pos rfl]
   generalize hE:(if x.kd=14 then sent x::rest else rest)=es'
   have HE:=Vh hE
   clear hE
   have HW:=Vh (show Q.wt+1≤16 by have:=H16.out;omega)
   have hr1: -9223372036854775808≤wi+1:=by have:=HWI.out;omega
   have hr2:wi+1≤9223372036854775807:=by have:=HW.out;have:=HWI.out;omega
   go_enter Tryz.func111,Tryz.ntmps111
   try dsimp only [List.append]
   go_wp2_with fail
   go_region_held3 (fun w'=>w'.heap[kb]? =some (.cells (coc Q.id Q.ru Q.rg pb Q.pr.length Q.pc qb wi) 124 (0,0))∧w'.heap[p]? =some (.cells (sec x) 165 (0,0)))
    (first |exact ⟨hb1,hs⟩|exact ⟨(by rw [←HWI.out];exact h4.co.own),c4.keep hs HN.out.2.1⟩)
    (first
     |(go_at_call 146;refine (casked x.kd _).mono ?_;rintro e w' ⟨rfl,rfl⟩)
     |(go_at_call 145;refine (US.out _ ((Chg.refl [] w1).drew)).mono ?_;rintro e w4 ⟨rfl,m4⟩;obtain ⟨F4,h4,c4,k4⟩:=(H1.out.keep0 ((Chg.refl [] w1).drew)).step m4))
   all_goals
    rename World=>w4
    rename _∧_=>hHeld
    have hb4:=hHeld.1
    have hs4:=hHeld.2
    have H4:=Vh h4
    have HG4:=Vh (show Chg (kb::pb::qb::F) w w4 from (HC1.out.mono (by simp)).trans (((Chg.refl _ w1).drew).trans (Qbm c4)))
    have HK4:=Vh (show ∀k∈F4,k∈F∨w.heap.size≤k from fun k hk=>(k4 k hk).imp id (Nat.le_trans HC1.out.size))
    clear hHeld c4 h4 k4 m4 hs hb1
    have HC5:=Vh (H4.out.co.setWt (show wi+1=((Q.wt+1:Nat):Int) by have:=HWI.out;omega) HW.out)
    have HG5:=Vh ((Chg.refl [kb] w4).setCell kb 13 (.int .i64 (wi+1)) (.inl (by simp)))
    have hs5:(w4.setCell ⟨kb,13,none⟩ (.int .i64 (wi+1))).heap[p]? =some (.cells (sec x) 165 (0,0)):=HG5.out.keep hs4 (by simpa using n1)
    have hb5:=HC5.out.own
    have o5:=old hs5
    have ok5:=old hb5
    generalize hw5:w4.setCell ⟨kb,13,none⟩ (.int .i64 (wi+1))=w5 at *
    by_cases h14:x.kd=14
    ·have HE':=HE.out
     rw [if_pos h14] at HE'
     subst HE'
     have hk14:(x.kd==14)=true:=by simp [h14]
     have HSD:=Vh (show sdE Q.es=sent x::rest by rw [HES.out];show (if x.kd=14 then _ else _)=_;rw [if_pos h14])
     clear h14
     go_wp2_with fail
     refine (ssend_ok HC5.out.buf).mono ?_
     rintro e w6 ⟨rfl,c6,b6⟩
     have HSD':=HSD.out
     rw [show ({Q with wt:=Q.wt+1}:Co).es=Q.es from rfl,HSD'] at b6
     have HC6:=Vh (HC5.out.entries c6 b6 (fun e he=>(List.mem_cons.1 he).elim (fun h1=>h1▸HPX.out) (fun h1=>HPE.out e h1)))
     exact Tz30
    ·have HE':=HE.out
     rw [if_neg h14] at HE'
     subst HE'
     have hk14:(x.kd==14)=false:=by simp [h14]
     have HSD:=Vh (show Q.es.tail=rest by rw [HES.out];rfl)
     clear h14
     go_wp2_with fail
     refine (spop_ok HC5.out.buf).mono ?_
     rintro e w6 ⟨rfl,c6,b6⟩
     have HSD':=HSD.out
     rw [show ({Q with wt:=Q.wt+1}:Co).es=Q.es from rfl,HSD'] at b6
     have HC6:=Vh (HC5.out.entries c6 b6 HPE.out)
     exact Tz30
  ·have hfe:(fe !=0)=true:=by simpa using hf
   rw [if_neg hf,if_neg hf]
   clear hf
   go_enter Tryz.func111,Tryz.ntmps111
   try dsimp only [List.append]
   go_wp2_with fail
   go_region_held3 (fun w'=>w'.heap[kb]? =some (.cells (coc Q.id Q.ru Q.rg pb Q.pr.length Q.pc qb wi) 124 (0,0))∧w'.heap[p]? =some (.cells (sec x) 165 (0,0)))
    (first |exact ⟨hb1,hs⟩|exact ⟨(by rw [←HWI.out];exact h4.co.own),c4.keep hs HN.out.2.1⟩)
    (first
     |(go_at_call 146;refine (casked x.kd _).mono ?_;rintro e w' ⟨rfl,rfl⟩)
     |(go_at_call 145;refine (US.out _ ((Chg.refl [] w1).drew)).mono ?_;rintro e w4 ⟨rfl,m4⟩;obtain ⟨F4,h4,c4,k4⟩:=(H1.out.keep0 ((Chg.refl [] w1).drew)).step m4))
   all_goals
    rename World=>w4
    rename _∧_=>hHeld
    have hb4:=hHeld.1
    have hs4:=hHeld.2
    have H4:=Vh h4
    have HG4:=Vh (show Chg (kb::pb::qb::F) w w4 from (HC1.out.mono (by simp)).trans (((Chg.refl _ w1).drew).trans (Qbm c4)))
    have HK4:=Vh (show ∀k∈F4,k∈F∨w.heap.size≤k from fun k hk=>(k4 k hk).imp id (Nat.le_trans HC1.out.size))
    clear hHeld c4 h4 k4 m4 hs hb1
    go_wp2_with fail
    go_ret
    exact CSTo.from HG4.out HK4.out ⟨_,F4,rfl,EvV.nil ..,H4.out,Chg.refl _ _,fun k hk=>.inl hk⟩
end
end
section
set_option maxRecDepth 100000
attribute [local go_sem ↓] Qv QF Qx QP QG Qs Qk Qh heap_alloc Ql heap_setCell Qc X7 Xl Xd ZF Yj Xs Yi Xr X1 X0 XW XX XY Xe XK XJ XI Xg Yq Yr Yp Ym Yn YC Yy Xv YA YB Yz Yx
attribute [local go_sem] Qb Qa Qe Qi Qd Qg Qf QB Qw QN QL QM Q6 QJ QA Qr QD QX QI Qq QC Qp Qj Qo Qn XV Xb Yh Q5 Xm Xn JC XZ ZU ZT ZS ZR X6 X5 X2 X3 X4 QE ZI Xf ZJ XH Q8 Xt Yo Xu JP Z3 Z2 Z1 Z0 ZZ Yv Yw Yu Ys Yt ZY QS QT QR QK Qt Zk
attribute [local simp ↓] Qk Qh heap_alloc Ql heap_setCell Qc
attribute [local simp] Qb Qa Qe Qi Qd Qg Qf Qr Qj Qo Qn Q5 QE Q8 QS QT QR QK Qt QD
attribute [local go_sem ↓] Qh
def evzV:Value:=.agg (evc evZ)
theorem evzV_size:evzV.cells.size=5:=rfl
theorem evzV_one:∀v∈evzV.cells,v.oneCell'=true:=by intro v hv;simp [evzV,Value.cells,evc,Ev.enc] at hv;rcases hv with rfl|rfl|rfl|rfl|rfl<;>rfl
theorem ev_info:(Tryz.prog.info? 48).map (fun i=>(i.zero,i.size,i.bytes))=some (some evzV,5,40):=by kernel_rfl
theorem eltEv:Elt Tryz.prog 41 48 5 40 evzV Ev.enc where
 slice:=Tryz.underlying41
 info:=ev_info
 zero:=evzV_size
 zone:=evzV_one
 pos:=by omega
 len:=Ev.len
 one:=Ev.one
theorem at_no13 (n a:Int) (w:World) (h0:1≤n) (h1:n≤64) (g0:0≤a) (g3:a<18446744073709551616) (h:atB n a=false):Calls Tryz.prog 139 #[.int .i64 n,.int .u64 a] w fun e w'=>e=.returned (.tuple #[.int .i64 0,.int .i64 0,.int .i64 12])∧w=w':=by
 unfold atB at h
 by_cases g1:a % 8=0
 ·by_cases g2:a / 64<n
  ·simp [g1,g2] at h
  ·have t1:(a % 8 !=0)=false:=by simp [g1]
   have t2:decide (n≤a / 64)=true:=by simp;omega
   clear g1 g2 h
   go_enter Tryz.func139,Tryz.ntmps139
   go_wp2_with (go_at_call 72;refine (Zs _ _ _ _ h0 h1).mono ?_;rintro e w' ⟨rfl,rfl⟩)
   go_ret3
   exact ⟨rfl,rfl⟩
 ·exact at_odd n a w h0 h1 g0 g1
theorem at_yes13 (n a:Int) (w:World) (h0:1≤n) (h1:n≤64) (g0:0≤a) (h:atB n a=true):Calls Tryz.prog 139 #[.int .i64 n,.int .u64 a] w fun e w'=>e=.returned (.tuple #[.int .i64 (lineOf a),.int .i64 (wordOf a),.int .i64 0])∧w=w':=by
 unfold atB at h
 simp only [Bool.and_eq_true,beq_iff_eq,decide_eq_true_eq] at h
 exact at_ok n a w h0 h1 g0 h.1 h.2
theorem ev_append {w:World} {kb be1 be2:Nat} {e1 e2:Ev} (h1:w.heap[be1]? =some (.cells (evc e1) 48 (0,0))) (h2:w.heap[be2]? =some (.cells (evc e2) 48 (0,0))) (hk:be1≠kb) (hk2:be2≠kb) (ok:Old w kb):
 ∃be A cap w',appR Tryz.prog 41 41 #[.slice (some ⟨be1,0,none⟩) 1 1,.slice (some ⟨be2,0,none⟩) 1 1] w=.ok (.slice A 2 cap) w'∧Vec 5 48 Ev.enc w' kb be A cap [e1,e2]∧(be=be1∨w.heap.size≤be)∧Chg [be1] w w':=by
 have v1:Vec 5 48 Ev.enc w kb be1 (some ⟨be1,0,none⟩) 1 [e1]:=.inr ⟨hk,rfl,by simp,[],by rw [Qhy];exact h1,by simp⟩
 have v2:Vec 5 48 Ev.enc w kb be2 (some ⟨be2,0,none⟩) 1 [e2]:=.inr ⟨hk2,rfl,by simp,[],by rw [Qhy];exact h2,by simp⟩
 obtain ⟨be',cap',A',w',ha,hv,hb,hc,_⟩:=Vec.app (ty:=41) eltEv v1 ok (B:=some ⟨be2,0,none⟩) (m:=1) (c:=1) (ys:=[e2]) (v2.sl Ev.len) rfl (by show (1+1)*40≤_;omega) (by show 1+1≤_;decide)
 exact ⟨be',A',cap',w',ha,hv,hb,hc⟩
theorem cgfield_li (c:Cg) (w:World):(Instr.field 23 (.agg c.cells) 1).run Tryz.prog w=.ok (.int .i64 c.li) w:=by kernel_rfl
attribute [local go_sem ↓] cgfield_li
theorem putC_eq (S:Mst) (Q:Co) (kd:Int) (e:Se):putC S Q kd e=⟨S,if sbV Q.rm Q.es e=0 then YM {Q with es:=sbE Q.rm Q.es e} else Q,if sbV Q.rm Q.es e=0 then [evC Q kd e.li e.wo e.va] else []⟩:=by unfold putC;split<;>rfl
theorem CS.keep1 {W w w':World} {c:Cg} {sy:Nat} {F:List Nat} {S:Mst} {kb pb qb b:Nat} {Q:Co} (h:CS W w c sy F S kb pb qb Q) (hc:Chg [b] w w') (h1:b∉F) (h2:b≠kb∧b≠pb∧b≠qb) (h3:W.heap.size≤b):CS W w' c sy F S kb pb qb Q:=
 ⟨Mem.keepL h.ms hc (fun k hk=>by rw [List.mem_singleton] at hk;subst hk;exact h1) (fun k hk=>by rw [List.mem_singleton] at hk;subst hk;exact h3),h.co.keep hc (by simpa using h2.1.symm) (by simpa using h2.2.1.symm) (by simpa using h2.2.2.symm),h.nk,h.np,h.nq,h.lk,h.lp,h.lq⟩
section
variable {W w:World} {c:Cg} {sy n:Nat} {F:List Nat} {S:Mst} {cur:Nat→List Int} {kb pb qb:Nat} {Q:Co} (h:CS W w c sy F S kb pb qb Q) (hI:Inv c n S cur) (hN:NN cur) (hn:n+1≤1000000000) (hR:Roomy c S) (hR2:∀li wo,Roomy c (loadM c S Q.id li wo).1) (hT:Tab W)
include h hI hN hn hR hR2 hT
theorem echange (i:Ins) (ha:0≤i.a∧i.a<8) (hc:0≤i.c∧i.c<8) (li wo:Int) (hp:Q.pc<2147483648):Calls Tryz.prog 142 #[.pointer (some ⟨kb,0,none⟩),.pointer (some ⟨sy,0,none⟩),.agg (insc i),.int .i64 li,.int .i64 wo] w (CSTo W w c sy F kb pb qb (Qa9 c S Q i li wo).S (Qa9 c S Q i li wo).Q (Qa9 c S Q i li wo).ev):=by
 obtain ⟨na,hna⟩:∃n:Nat,i.a=(n:Int):=⟨i.a.toNat,by omega⟩
 have la:na<8:=by omega
 have la':(na:Int)<8:=by omega
 have h8:=h.co.ok.h8
 have hx:(w.alloc (.cells (insc i) 65)).heap[w.heap.size]? =some (.cells (insc i) 65 (0,0)):=by simp
 have HCH:Chg [] w (w.alloc (.cells (insc i) 65)):=(Chg.refl [] w).alloc _
 have HNE:=Vh (show w.heap.size≠kb∧w.heap.size∉F∧w.heap.size≠qb from ⟨by have:=h.co.oldk.lt;omega,fun hm=>by have:=h.old _ hm;omega,by have:=h.co.oldq.lt;omega⟩)
 have H1:=Vh (h.keep0 HCH)
 have hb1:=H1.out.co.own
 have HP:=Vh hp
 have HS1:=Vh (dsettled H1.out.co)
 have UR:=Vh (ureach H1.out.ms hI (by omega) hR hT Q.id li)
 have UL:=Vh (fun (w':World) (F':List Nat) (h':CS W w' c sy F' S kb pb qb Q)=>uload h'.ms hI (by omega) hR hT Q.id li wo)
 have US:=Vh (fun (w':World) (F':List Nat) (v:Int) (h':CS W w' c sy F' (loadM c S Q.id li wo).1 kb pb qb Q)=>ustore h'.ms (hI.loadM Q.id li wo) hn (hR2 li wo) hT Q.id li wo v)
 have HRH:=Vh (fun hh=>reach_hit hI hN h.co.ok.pos (Q:=Q) (k:=Q.id) (li:=li) hh)
 have HV:=Vh (loadV_pos hI hN Q.id li wo)
 have HC1:=Vh HCH
 unfold Qa9
 clear h hI hN hn hR hR2 hT hp HCH
 generalize hw1:w.alloc (.cells (insc i) 65)=w1 at *
 generalize hz:w.heap.size=p at *
 have ok1:=old hb1
 have op1:=old hx
 have n1:¬p=kb:=HNE.out.1
 have n2:¬kb=p:=fun e=>HNE.out.1 e.symm
 cases hs:YQ Q
 ·rw [hs] at HS1
  show Calls _ _ _ _ (CSTo W w c sy F kb pb qb S Q [])
  clear hs
  go_enter Tryz.func142,Tryz.ntmps142
  try dsimp only [List.append]
  go_wp2_with (go_at_call 137;refine HS1.out.mono ?_;rintro e w' ⟨rfl,rfl⟩)
  go_ret
  exact ⟨_,F,rfl,EvV.nil ..,H1.out,HC1.out.mono (by simp),fun k hk=>.inl hk⟩
 rw [hs] at HS1
 rw [if_pos rfl]
 clear hs
 cases hr:(reachM c S Q.id li).2.hit
 ·rw [hr] at UR
  show Calls _ _ _ _ (CSTo W w c sy F kb pb qb (reachM c S Q.id li).1 Q [])
  generalize (reachM c S Q.id li).1=S1 at *
  go_enter Tryz.func142,Tryz.ntmps142
  try dsimp only [List.append]
  go_wp2_with (first |(go_at_call 137;refine HS1.out.mono ?_;rintro e w' ⟨rfl,rfl⟩)|(go_at_call 195;refine UR.out.mono ?_;rintro e w2 ⟨rfl,m2⟩;have HM2:=Vh m2;clear m2))
  go_ret
  obtain ⟨F2,h2,c2,k2⟩:=H1.out.step HM2.out
  exact ⟨_,F2,rfl,EvV.nil ..,h2,(HC1.out.mono (by simp)).trans (Qbm c2),fun k hk=>(k2 k hk).imp id (Nat.le_trans HC1.out.size)⟩
 rw [hr,HRH.out hr] at UR
 rw [if_pos rfl,HRH.out hr]
 clear hr HRH
 have HCG:=Vh (fun (w':World) (F':List Nat) (S':Mst) (h':CS W w' c sy F' S' kb pb qb Q)=>dchanged h'.co i ha hc (loadM c S Q.id li wo).2.v)
 generalize (loadM c S Q.id li wo).2.v=v at *
 generalize (loadM c S Q.id li wo).1=S1 at *
 have HVV:=Vh (show 0≤chgV Q i v from by unfold chgV;split;exact H1.out.co.ok.pos.reg _;exact Qc0 _)
 generalize chgV Q i v=cv at *
 rw [hna]
 clear ha hc
 cases hcb:chgB Q i v
 ·rw [hcb] at HCG
  show Calls _ _ _ _ (CSTo W w c sy F kb pb qb S1 (YM (setR Q na v)) [evC Q 4 li wo v])
  clear hcb
  go_enter Tryz.func142,Tryz.ntmps142
  try dsimp only [List.append]
  go_wp2_with (first |(go_at_call 137;refine HS1.out.mono ?_;rintro e w' ⟨rfl,rfl⟩)|(go_at_call 195;refine UR.out.mono ?_;rintro e w2 ⟨rfl,m2⟩;obtain ⟨F2,h2,c2,k2⟩:=H1.out.step m2;have H2:=Vh h2;have C2:=Vh c2;have K2:=Vh k2;have hx2:=c2.keep hx HNE.out.2.1;have hb2:=h2.co.own;clear m2 h2 c2 k2 hb1))
  have NP2:=Vh (show p∉F2 from fun hm=>(K2.out p hm).elim HNE.out.2.1 (fun hm2=>by have:=op1.lt;omega))
  clear hx
  refine (UL.out _ _ H2.out).mono ?_
  rintro e w3 ⟨rfl,m3⟩
  obtain ⟨F3,h3,c3,k3⟩:=H2.out.step m3
  have H3:=Vh h3
  have C3:=Vh c3
  have K3:=Vh k3
  have hx3:=C3.out.keep hx2 NP2.out
  have hb3:=h3.co.own
  clear m3 h3 c3 k3 hx2 hb2
  go_wp2_with fail
  refine (Qcz hb3 4 li wo v).mono ?_
  rintro e w4 ⟨rfl,c4⟩
  have C5:=Vh (show Chg [] w3 (w4.alloc (.cells (evc ⟨4,Q.id,li,wo,v⟩) 48)) from c4.alloc _)
  have he5:(w4.alloc (.cells (evc ⟨4,Q.id,li,wo,v⟩) 48)).heap[w4.heap.size]? =some (.cells (evc ⟨4,Q.id,li,wo,v⟩) 48 (0,0)):=by simp
  have HB5:=Vh (show w3.heap.size≤w4.heap.size from c4.size)
  have hx4:=c4.keep hx3 (by simp)
  have hb4:=c4.keep hb3 (by simp)
  have ox4:=old hx4
  have ob4:=old hb4
  clear c4
  go_wp2_with fail
  generalize hw5:w4.alloc (.cells (evc ⟨4,Q.id,li,wo,v⟩) 48)=w5 at *
  generalize hbe:w4.heap.size=be at *
  refine (HCG.out w5 F3 S1 (H3.out.keep0 C5.out)).mono ?_
  rintro e w6 ⟨rfl,c6⟩
  have C6:=Vh (C5.out.trans c6)
  have H6:=Vh (H3.out.keep0 C6.out)
  have he6:=c6.keep he5 (by simp)
  have hx6:=C6.out.keep hx3 (by simp)
  have hb6:=H6.out.co.own
  have o6:=old hx6
  have ok6:=old hb6
  clear c6 he5 hx3 hb3 hw5 hbe hx4 hb4 ox4 ob4
  go_wp2_with fail
  go_region
  all_goals
   go_wp2_with fail
   have hN6:=C6.out.size
   have HF6:=H6.out.old
   have hbk:be≠kb:=by have:=H3.out.co.oldk.lt;have:=HB5.out;omega
   have cS:Chg [kb] w6 (w6.setCell ⟨kb,2+na,none⟩ (.int .u64 v)).drew:=((Chg.refl [kb] w6).setCell kb _ _ (.inl (by simp))).drew
   have hC7:Cor (w6.setCell ⟨kb,2+na,none⟩ (.int .u64 v)).drew kb pb qb (setR Q na v):=(H6.out.co.setReg la HV.out).keep0 (Chg.refl [] _).drew
   have hE7:EvV (w6.setCell ⟨kb,2+na,none⟩ (.int .u64 v)).drew w3.heap.size kb F3 (.slice (some ⟨be,0,none⟩) 1 1) [evC Q 4 li wo v]:=EvV.one (cS.keep he6 (by simpa using hbk)) hbk HB5.out (fun hm=>by have:=H3.out.old _ hm;have:=HB5.out;omega)
   refine (dnext hC7 (F:=F3) (fun k hk=>by have:=HF6 k hk;have:=cS.size;omega) hE7 HP.out).mono ?_
   rintro e w8 ⟨rfl,h1,h2,h3⟩
   go_wp2_with fail
   go_ret
   exact CSTo.from (HC1.out.mono (by simp)) (fun k hk=>.inl hk) (CSTo.from (Qbm C2.out) K2.out (CSTo.from (Qbm C3.out) K3.out ⟨_,F3,rfl,h1,H6.out.core ((cS.mono (by simp)).trans (h3.mono (by simp))) h2,(C6.out.mono (by simp)).trans (Z7 ((cS.mono (by simp)).trans (h3.mono (by simp)))),fun k hk=>.inl hk⟩))
 ·rw [hcb] at HCG
  rw [if_pos rfl]
  show Calls _ _ _ _ (CSTo W w c sy F kb pb qb (storeM c S1 Q.id li wo cv).1 (YM (setR Q na v)) [evC Q 4 li wo v,evC Q 3 li wo cv])
  clear hcb
  go_enter Tryz.func142,Tryz.ntmps142
  try dsimp only [List.append]
  go_wp2_with (first |(go_at_call 137;refine HS1.out.mono ?_;rintro e w' ⟨rfl,rfl⟩)|(go_at_call 195;refine UR.out.mono ?_;rintro e w2 ⟨rfl,m2⟩;obtain ⟨F2,h2,c2,k2⟩:=H1.out.step m2;have H2:=Vh h2;have C2:=Vh c2;have K2:=Vh k2;have hx2:=c2.keep hx HNE.out.2.1;have hb2:=h2.co.own;clear m2 h2 c2 k2 hb1))
  have NP2:=Vh (show p∉F2 from fun hm=>(K2.out p hm).elim HNE.out.2.1 (fun hm2=>by have:=op1.lt;omega))
  clear hx
  refine (UL.out _ _ H2.out).mono ?_
  rintro e w3 ⟨rfl,m3⟩
  obtain ⟨F3,h3,c3,k3⟩:=H2.out.step m3
  have H3:=Vh h3
  have C3:=Vh c3
  have K3:=Vh k3
  have hx3:=C3.out.keep hx2 NP2.out
  have hb3:=h3.co.own
  clear m3 h3 c3 k3 hx2 hb2
  go_wp2_with fail
  refine (Qcz hb3 4 li wo v).mono ?_
  rintro e w4 ⟨rfl,c4⟩
  have C5:=Vh (show Chg [] w3 (w4.alloc (.cells (evc ⟨4,Q.id,li,wo,v⟩) 48)) from c4.alloc _)
  have he5:(w4.alloc (.cells (evc ⟨4,Q.id,li,wo,v⟩) 48)).heap[w4.heap.size]? =some (.cells (evc ⟨4,Q.id,li,wo,v⟩) 48 (0,0)):=by simp
  have HB5:=Vh (show w3.heap.size≤w4.heap.size from c4.size)
  have hx4:=c4.keep hx3 (by simp)
  have hb4:=c4.keep hb3 (by simp)
  have ox4:=old hx4
  have ob4:=old hb4
  clear c4
  go_wp2_with fail
  generalize hw5:w4.alloc (.cells (evc ⟨4,Q.id,li,wo,v⟩) 48)=w5 at *
  generalize hbe:w4.heap.size=be at *
  refine (HCG.out w5 F3 S1 (H3.out.keep0 C5.out)).mono ?_
  rintro e w6 ⟨rfl,c6⟩
  have C6:=Vh (C5.out.trans c6)
  have H6:=Vh (H3.out.keep0 C6.out)
  have he6:=c6.keep he5 (by simp)
  have hx6:=C6.out.keep hx3 (by simp)
  have hb6:=H6.out.co.own
  have o6:=old hx6
  have ok6:=old hb6
  have HPB:=Vh (show p≠be from by have:=(old hx3).lt;have:=HB5.out;omega)
  clear c6 he5 hx3 hb3 hw5 hbe hx4 hb4 ox4 ob4
  go_wp2_with fail
  have hbk:be≠kb:=by have:=H3.out.co.oldk.lt;have:=HB5.out;omega
  have hbF:be∉F3:=fun hm=>by have:=H3.out.old _ hm;have:=HB5.out;omega
  have HBK:=Vh hbk
  refine (US.out w6 F3 cv H6.out).mono ?_
  rintro e w7 ⟨rfl,m7⟩
  obtain ⟨F7,h7,c7,k7⟩:=H6.out.step m7
  have H7:=Vh h7
  have C7:=Vh c7
  have K7:=Vh k7
  have he7:=c7.keep he6 hbF
  have hx7:=c7.keep hx6 (fun hm=>(K3.out p hm).elim NP2.out (fun h=>by have:=(old hx6).lt;have h8:=C2.out.size;have h9:=HC1.out.size;have:=op1.lt;omega))
  have hb7:=h7.co.own
  have HBF:=Vh (show be∉F7 from fun hm=>(k7 be hm).elim hbF (fun h=>by have:=(old he6).lt;omega))
  clear m7 h7 c7 k7 he6 hx6 hb6 o6 ok6 hbk hbF
  go_wp2_with fail
  refine (Qcz hb7 3 li wo cv).mono ?_
  rintro e w8 ⟨rfl,c8⟩
  have C9:=Vh (show Chg [] w7 (w8.alloc (.cells (evc ⟨3,Q.id,li,wo,cv⟩) 48)) from c8.alloc _)
  have he9:=C9.out.keep he7 (by simp)
  have hx9:=C9.out.keep hx7 (by simp)
  have hb9:=C9.out.keep hb7 (by simp)
  have hf9:(w8.alloc (.cells (evc ⟨3,Q.id,li,wo,cv⟩) 48)).heap[w8.heap.size]? =some (.cells (evc ⟨3,Q.id,li,wo,cv⟩) 48 (0,0)):=by simp
  have HZ9:=Vh (show w7.heap.size≤w8.heap.size from c8.size)
  have hx8:=c8.keep hx7 (by simp)
  have hb8:=c8.keep hb7 (by simp)
  have he8:=c8.keep he7 (by simp)
  have ox8:=old hx8
  have ob8:=old hb8
  have oe8:=old he8
  obtain ⟨bq,Aq,cq,w10,happ,hvec,hbq,hcq⟩:=ev_append he9 hf9 HBK.out (by have:=(old hb7).lt;have:=HZ9.out;omega) (old hb9)
  have HVEC:=Vh hvec
  have HBQ:=Vh hbq
  have C10:=Vh hcq
  have hx10:=hcq.keep hx9 (show p∉[be] from by simpa using fun e=>HPB.out e)
  have hb10:=hcq.keep hb9 (show kb∉[be] from by simpa using fun e=>HBK.out e.symm)
  have ox10:=old hx10
  have ob10:=old hb10
  clear hvec hbq hcq c8 he7 hx7 hb7 he9 hx9 hb9 hf9
  go_wp2_with fail
  have hbp:be≠pb∧be≠qb:=by have:=H3.out.co.oldp.lt;have:=H3.out.co.oldq.lt;have:=HB5.out;omega
  have hWb:W.heap.size≤be:=by have:=H3.out.lk;have:=H3.out.co.oldk.lt;have:=HB5.out;omega
  have H10:=Vh ((H7.out.keep0 C9.out).keep1 C10.out HBF.out ⟨HBK.out,hbp⟩ hWb)
  have HE10:=Vh (show EvV w10 w3.heap.size kb F7 (.slice Aq 2 cq) [evC Q 4 li wo v,evC Q 3 li wo cv] from ⟨Aq,cq,bq,rfl,HVEC.out,.inr (by
   have e3:=HB5.out
   have e9:=C9.out.size
   have e7:=C7.out.size
   have e6:=C6.out.size
   rcases HBQ.out with e|e<;>omega),.inr (fun hm=>by
   have e9:=C9.out.size
   have e7:=H7.out.old _ hm
   rcases HBQ.out with e|e
   ·rw [e] at hm;exact HBF.out hm
   ·omega)⟩)
  clear hbp hWb happ hx8 hb8 he8 ox8 ob8 oe8
  go_region
  all_goals
   go_wp2_with fail
   have HF10:=H10.out.old
   have cS:Chg [kb] w10 (w10.setCell ⟨kb,2+na,none⟩ (.int .u64 v)).drew:=((Chg.refl [kb] w10).setCell kb _ _ (.inl (by simp))).drew
   have hC7:Cor (w10.setCell ⟨kb,2+na,none⟩ (.int .u64 v)).drew kb pb qb (setR Q na v):=(H10.out.co.setReg la HV.out).keep0 (Chg.refl [] _).drew
   refine (dnext hC7 (F:=F7) (fun k hk=>by have:=HF10 k hk;have:=cS.size;omega) (HE10.out.keep cS (fun x _ hx _=>by simpa using hx)) HP.out).mono ?_
   rintro e w11 ⟨rfl,h1,h2,h3⟩
   go_wp2_with fail
   go_ret
   have cA:Chg F3 w3 w10:=(((C6.out.mono (l':=F3) (by simp)).trans C7.out).trans (C9.out.mono (by simp))).trans' C10.out (fun x hx=>.inr (by
    rw [List.mem_singleton] at hx
    rw [hx]
    exact HB5.out))
   have cB:Chg [kb,pb,qb] w10 w11:=(cS.mono (by simp)).trans (h3.mono (by simp))
   exact CSTo.from (HC1.out.mono (by simp)) (fun k hk=>.inl hk) (CSTo.from (Qbm C2.out) K2.out (CSTo.from (Qbm C3.out) K3.out ⟨_,F7,rfl,h1,H10.out.core cB h2,(Qbm cA).trans (Z7 cB),fun k hk=>(K7.out k hk).imp id (Nat.le_trans C6.out.size)⟩))
theorem Qe7 (i:Ins) (hg:YY i=true) (hop:i.op=8∨i.op=9∨i.op=10∨i.op=11∨i.op=12∨i.op=13∨i.op=14) (hp:Q.pc<2147483648):Calls Tryz.prog 107 #[.pointer (some ⟨kb,0,none⟩),.pointer (some ⟨sy,0,none⟩),.agg (insc i)] w (CSTo W w c sy F kb pb qb (Xw c S Q i).S (Xw c S Q i).Q (Xw c S Q i).ev):=by
 obtain ⟨_,ha,hb,hc,_,_⟩:=Zw hg
 obtain ⟨na,hna⟩:∃n:Nat,i.a=(n:Int):=⟨i.a.toNat,by omega⟩
 obtain ⟨nb,hnb⟩:∃n:Nat,i.b=(n:Int):=⟨i.b.toNat,by omega⟩
 have ea:regA Q i.a=regN Q.rg na:=by unfold regA;rw [hna,Int.toNat_natCast]
 have eb:regA Q i.b=regN Q.rg nb:=by unfold regA;rw [hnb,Int.toNat_natCast]
 have la:na<8:=by omega
 have lb:nb<8:=by omega
 have la':(na:Int)<8:=by omega
 have lb':(nb:Int)<8:=by omega
 have h8:=h.co.ok.h8
 have hx:(w.alloc (.cells (insc i) 65)).heap[w.heap.size]? =some (.cells (insc i) 65 (0,0)):=by simp
 have HCH:Chg [] w (w.alloc (.cells (insc i) 65)):=(Chg.refl [] w).alloc _
 have H1:=Vh (h.keep0 HCH)
 have hb1:=H1.out.co.own
 have HP:=Vh hp
 have HC1:=Vh HCH
 have HOP:=Vh hop
 have ad0:0≤Qf9 Q i∧Qf9 Q i<18446744073709551616:=by unfold Qf9;rw [Qg2];omega
 have AD:=Vh ad0
 have HLI:=Vh (show 1≤(c.li:Int)∧(c.li:Int)≤64 from ⟨by have:=hI.ok.li2;omega,by have:=hI.ok.li64;omega⟩)
 have EL:=Vh (fun (w':World) (h':CS W w' c sy F S kb pb qb Q) (li wo:Int)=>eload h' hI hN (by omega) hR hT (na:Int) (by omega) li wo hp)
 have EC:=Vh (fun (w':World) (h':CS W w' c sy F S kb pb qb Q) (li wo:Int)=>echange h' hI hN hn hR hR2 hT i ha hc li wo hp)
 have EP:=Vh (fun (w':World) (h':CS W w' c sy F S kb pb qb Q) (kd:Int) (x:Se) (hx:0≤x.va)=>show Calls _ _ _ _ (CSTo W w' c sy F kb pb qb (putC S Q kd x).S (putC S Q kd x).Q (putC S Q kd x).ev) from by rw [putC_eq];exact (dput h'.co h'.old kd x hx hp).mono fun e w' hd=>h'.ofCo hd)
 have ED:=Vh (fun (w':World) (h':CS W w' c sy F S kb pb qb Q) (kd:Int)=>(dend h'.co h'.old kd).mono fun e w' hd=>h'.ofCo hd)
 have EA:=Vh (show Qf9 Q i=IntKind.u64.wrap (regN Q.rg nb+IntKind.u64.wrap i.im) from by unfold Qf9;rw [eb])
 have RP:=Vh (show 0≤regN Q.rg na from by have:=h.co.ok.pos.reg i.a;rw [ea] at this;exact this)
 have GS:=Vh (fun (w':World)=>gsum_any (regN Q.rg nb) i.im w')
 unfold Xw
 rw [ea]
 generalize hw1:w.alloc (.cells (insc i) 65)=w1 at *
 generalize hz:w.heap.size=p at *
 rw [←EA.out] at GS
 generalize Qf9 Q i=ad at *
 have R1:∀y:Aft w1.heap.size w1,y.w.heap[p]? =some (.cells (insc i) 65 (0,0)):=fun y=>(y.block (old hx).lt).trans hx
 have R2:∀y:Aft w1.heap.size w1,y.w.heap[kb]? =some (.cells (coc Q.id Q.ru Q.rg pb Q.pr.length Q.pc qb Q.wt) 124 (0,0)):=fun y=>(y.block (old hb1).lt).trans hb1
 have ob1:=old hb1
 have ox1:=old hx
 clear h hI hN hn hR hR2 hT hp HCH hop ad0 ea eb hg
 cases hat:atB c.li ad
 ·show Calls _ _ _ _ (CSTo W w c sy F kb pb qb S (Qfc Q) [evC Q 10 0 0 0])
  have HAT:=Vh (fun w'=>at_no13 c.li ad w' HLI.out.1 HLI.out.2 AD.out.1 AD.out.2 hat)
  clear hat
  go_enter Tryz.func107,Tryz.ntmps107
  try dsimp only [List.append]
  go_wp2_with fail
  refine X8 w1.heap.size (by kernel_rfl) (by kernel_rfl) ?_
  repeat (go_big_quiet_step (first |(go_at_call 138;exact Y3 (GS.out _))))
  refine wpQuiet_nil ?_
  rintro _ ⟨y,rfl⟩
  have CY:=Vh (Below.chg y.below (Nat.le_refl _))
  have HY:=Vh (H1.out.keep0 CY.out)
  have r1:=R1 y
  have r2:=R2 y
  go_wp2_with (first |(go_at_call 37;refine (J8 HY.out.ms).mono ?_;rintro e w3 ⟨rfl,c3⟩;have H3:=Vh (HY.out.keep0 c3);have C3:=Vh c3;clear c3)|(go_at_call 139;refine (HAT.out _).mono ?_;rintro e w' ⟨rfl,rfl⟩)|(go_at_call 101;refine (ED.out _ H3.out 10).mono ?_;rintro e w4 ⟨v,F',rfl,hd⟩))
  go_ret
  exact CSTo.from (((HC1.out.trans CY.out).trans C3.out).mono (by simp)) (fun k hk=>.inl hk) ⟨v,F',rfl,hd⟩
 ·have HAT:=Vh (fun w'=>at_yes13 c.li ad w' HLI.out.1 HLI.out.2 AD.out.1 hat)
  clear hat
  generalize lineOf ad=li at *
  generalize wordOf ad=wo at *
  rcases HOP.out with hk|hk|hk|hk|hk
  ·rw [if_pos rfl,if_pos hk,hna]
   have k8:(i.op==8)=true:=by simp [hk]
   clear hk HOP
   go_enter Tryz.func107,Tryz.ntmps107
   try dsimp only [List.append]
   go_wp2_with fail
   refine X8 w1.heap.size (by kernel_rfl) (by kernel_rfl) ?_
   repeat (go_big_quiet_step (first |(go_at_call 138;exact Y3 (GS.out _))))
   refine wpQuiet_nil ?_
   rintro _ ⟨y,rfl⟩
   have CY:=Vh (Below.chg y.below (Nat.le_refl _))
   have HY:=Vh (H1.out.keep0 CY.out)
   have r1:=R1 y
   have r2:=R2 y
   go_wp2_with (first |(go_at_call 37;refine (J8 HY.out.ms).mono ?_;rintro e w3 ⟨rfl,c3⟩;have r13:=c3.keep r1 (by simp);have r23:=c3.keep r2 (by simp);have H3:=Vh (HY.out.keep0 c3);have C3:=Vh c3;clear c3 r1 r2)|(go_at_call 139;refine (HAT.out _).mono ?_;rintro e w' ⟨rfl,rfl⟩))
   refine (EL.out _ H3.out li wo).mono ?_
   rintro e w4 ⟨v,F',rfl,hd⟩
   go_wp2_with fail
   go_ret
   exact CSTo.from (((HC1.out.trans CY.out).trans C3.out).mono (by simp)) (fun k hk=>.inl hk) ⟨v,F',rfl,hd⟩
  ·rw [if_pos rfl,if_neg (by omega),if_pos hk]
   have k8:(i.op==8)=false:=by simp [hk]
   have k9:(i.op==9)=true:=by simp [hk]
   have HK:=Vh hk
   clear hk HOP
   go_enter Tryz.func107,Tryz.ntmps107
   try dsimp only [List.append]
   go_wp2_with fail
   refine X8 w1.heap.size (by kernel_rfl) (by kernel_rfl) ?_
   repeat (go_big_quiet_step (first |(go_at_call 138;exact Y3 (GS.out _))))
   refine wpQuiet_nil ?_
   rintro _ ⟨y,rfl⟩
   have CY:=Vh (Below.chg y.below (Nat.le_refl _))
   have HY:=Vh (H1.out.keep0 CY.out)
   have r1:=R1 y
   have r2:=R2 y
   go_wp2_with (first |(go_at_call 37;refine (J8 HY.out.ms).mono ?_;rintro e w3 ⟨rfl,c3⟩;have r13:=c3.keep r1 (by simp);have r23:=c3.keep r2 (by simp);have H3:=Vh (HY.out.keep0 c3);have C3:=Vh c3;clear c3 r1 r2)|(go_at_call 139;refine (HAT.out _).mono ?_;rintro e w' ⟨rfl,rfl⟩))
   go_still_tail 13,(by kernel_rfl)
   change wpList _ _ _ _ _ w3.drew
   have C4:=Vh ((Chg.refl [] w3).drew)
   have H4:=Vh (H3.out.keep0 C4.out)
   generalize w3.drew=w4 at *
   go_wp2_with fail
   rw [HK.out]
   refine (EP.out _ H4.out 12 ⟨9,li,wo,regN Q.rg na,false⟩ RP.out).mono ?_
   rintro e w5 ⟨v,F',rfl,hd⟩
   go_wp2_with fail
   go_ret
   exact CSTo.from (((((HC1.out.trans CY.out).trans C3.out).trans C4.out).mono (by simp))) (fun k hk=>.inl hk) ⟨v,F',rfl,hd⟩
  ·rw [if_pos rfl,if_neg (by omega),if_neg (by omega),if_pos (by omega)]
   have k8:(i.op==8)=false:=by simp [hk]
   have k9:(i.op==9)=false:=by simp [hk]
   have k10:(i.op==10)=true:=by simp [hk]
   exact Tz22
  ·rw [if_pos rfl,if_neg (by omega),if_neg (by omega),if_pos (by omega)]
   have k8:(i.op==8)=false:=by simp [hk]
   have k9:(i.op==9)=false:=by simp [hk]
   have k10:(i.op==10)=false:=by simp [hk]
   have k11:(i.op==11)=true:=by simp [hk]
   exact Tz22
  ·rw [if_pos rfl,if_neg (by omega),if_neg (by omega),if_neg (by omega)]
   have k8:(i.op==8)=false:=by rw [beq_eq_false_iff_ne];omega
   have k9:(i.op==9)=false:=by rw [beq_eq_false_iff_ne];omega
   have k10:(i.op==10)=false:=by rw [beq_eq_false_iff_ne];omega
   have k11:(i.op==11)=false:=by rw [beq_eq_false_iff_ne];omega
   clear hk HOP
   go_enter Tryz.func107,Tryz.ntmps107
   try dsimp only [List.append]
   go_wp2_with fail
   refine X8 w1.heap.size (by kernel_rfl) (by kernel_rfl) ?_
   repeat (go_big_quiet_step (first |(go_at_call 138;exact Y3 (GS.out _))))
   refine wpQuiet_nil ?_
   rintro _ ⟨y,rfl⟩
   have CY:=Vh (Below.chg y.below (Nat.le_refl _))
   have HY:=Vh (H1.out.keep0 CY.out)
   have r1:=R1 y
   have r2:=R2 y
   go_wp2_with (first |(go_at_call 37;refine (J8 HY.out.ms).mono ?_;rintro e w3 ⟨rfl,c3⟩;have r13:=c3.keep r1 (by simp);have r23:=c3.keep r2 (by simp);have H3:=Vh (HY.out.keep0 c3);have C3:=Vh c3;clear c3 r1 r2)|(go_at_call 139;refine (HAT.out _).mono ?_;rintro e w' ⟨rfl,rfl⟩))
   refine (EP.out _ H3.out 14 ⟨i.op,li,0,0,false⟩ (Int.le_refl _)).mono ?_
   rintro e w5 ⟨v,F',rfl,hd⟩
   go_wp2_with fail
   go_ret
   exact CSTo.from ((((HC1.out.trans CY.out).trans C3.out).mono (by simp))) (fun k hk=>.inl hk) ⟨v,F',rfl,hd⟩
end
end
section
set_option maxRecDepth 100000
attribute [local go_sem ↓] Qv QF Qx QP QG Qs Qk Qh heap_alloc Ql heap_setCell Qc X7 Xl Xd ZF Yj Xs Yi Xr X1 X0 XW XX XY Xe XK XJ XI Xg Yq Yr Yp Ym Yn YC Yy Xv YA YB Yz Yx
attribute [local go_sem] Qb Qa Qe Qi Qd Qg Qf QB Qw QN QL QM Q6 QJ QA Qr QD QX QI Qq QC Qp Qj Qo Qn XV Xb Yh Q5 Xm Xn JC XZ ZU ZT ZS ZR X6 X5 X2 X3 X4 QE ZI Xf ZJ XH Q8 Xt Yo Xu JP Z3 Z2 Z1 Z0 ZZ Yv Yw Yu Ys Yt ZY QS QT QR QK Qt Zk
attribute [local simp ↓] Qk Qh heap_alloc Ql heap_setCell Qc
attribute [local simp] Qb Qa Qe Qi Qd Qg Qf Qr Qj Qo Qn Q5 QE Q8 QS QT QR QK Qt QD
attribute [local go_sem ↓] Qh
theorem Cor.read {w w':World} {kb pb qb:Nat} {Q:Co} {u:Int} {r:Bool} (h:Cor w kb pb qb Q) (hx:Q.pr[Q.pc]? =some (u,r)) (hc:Chg [pb] w w') (hs:Sts w' pb ((Q.pr.set Q.pc (u,true)).map stp)):Cor w' kb pb qb (QO Q u):=by
 have hn:=(Vg hx).1
 have hl:(Q.pr.set Q.pc (u,true)).length=Q.pr.length:=List.length_set
 refine ⟨?_,hs,h.buf.keep hc (by simpa using h.pq.symm),h.kp,h.kq,h.pq,⟨h.ok.h8,h.ok.pc,by show (Q.pr.set _ _).length≤_;rw [hl];exact h.ok.np,?_,h.ok.wt,h.ok.id,h.ok.pos.read u⟩⟩
 ·show w'.heap[kb]? =some (.cells (coc Q.id Q.ru Q.rg pb (Q.pr.set Q.pc (u,true)).length Q.pc qb Q.wt) _ _)
  rw [hl]
  exact hc.keep h.own (by simpa using h.kp)
 ·intro x hm
  rcases List.mem_or_eq_of_mem_set hm with h1|rfl
  ·exact h.ok.pr x h1
  ·exact h.ok.pr (u,r) (List.mem_of_getElem? hx)
section
variable {w:World} {kb pb qb:Nat} {Q:Co} (hC:Cor w kb pb qb Q)
include hC
theorem dhere_none (hx:Q.pr.length≤Q.pc):Calls Tryz.prog 100 #[.pointer (some ⟨kb,0,none⟩)] w fun e w'=>e=.returned (.tuple #[.agg (insc insZ),.bool false])∧Chg [] w w':=by
 have h8:=hC.ok.h8
 have hb:=hC.own
 have ob:=old hb
 have hz:(w.alloc (.cells (insc insZ) 65)).heap[w.heap.size]? =some (.cells (insc insZ) 65 (0,0)):=by simp
 have HC1:=Vh ((Chg.refl [] w).alloc (.cells (insc insZ) 65))
 have hb1:=HC1.out.keep hb (by simp)
 have hlt:(Q.pr.length:Int)≤(Q.pc:Int):=by omega
 clear hC hx
 generalize Q.pr.length=np at *
 generalize Q.pc=pc at *
 go_enter Tryz.func100,Tryz.ntmps100
 go_wp2_with fail
 go_quiet (fail)
 go_wp2_with fail
 refine bodyPost_ret (v:=.tuple #[.agg (insc insZ),.bool false]) (J7 (by rfl) _ _ w.heap.size insZ (0,0) (by rfl) (by rw [Qc _ _ _ _ _ (by simp [ZX,Fit,QE]),if_pos rfl];simp) _ (by rfl)) (by rfl) ⟨rfl,(HC1.out.drewN _).putRow _ _ _ (.inr (Nat.le_refl _))⟩
theorem Qbs {u:Int} {r:Bool} (hx:Q.pr[Q.pc]? =some (u,r)):Calls Tryz.prog 100 #[.pointer (some ⟨kb,0,none⟩)] w fun e w'=>e=.returned (.tuple #[.agg (insc (decI u)),.bool (decB u)])∧Cor w' kb pb qb (QO Q u)∧Chg [pb] w w':=by
 have hn:=(Vg hx).1
 have h8:=hC.ok.h8
 have hb:=hC.own
 have ob:=old hb
 have hu:=hC.ok.pr _ (List.mem_of_getElem? hx)
 have hz:(w.alloc (.cells (insc insZ) 65)).heap[w.heap.size]? =some (.cells (insc insZ) 65 (0,0)):=by simp
 have HC1:=Vh ((Chg.refl [] w).alloc (.cells (insc insZ) 65))
 have HC:=Vh (hC.keep0 HC1.out)
 have hb1:=HC.out.own
 have HX:=Vh hx
 have HI:=Vh (fun (w':World) (h:Cor w' kb pb qb Q)=>oins h.steps hx hu.1 hu.2)
 have HR:=Vh (fun (w' w'':World) (h:Cor w' kb pb qb Q) (hc:Chg [pb] w' w'') hs=>h.read hx hc hs)
 have hlt:(Q.pc:Int)<(Q.pr.length:Int):=by omega
 have hlt2:decide ((Q.pr.length:Int)≤(Q.pc:Int))=false:=by simp;omega
 have h0:(0:Int)≤(Q.pc:Int):=by omega
 have HPP:=Vh (show w.heap.size≠kb∧w.heap.size≠pb∧w.heap.size≠qb from by have:=hC.oldk.lt;have:=hC.oldp.lt;have:=hC.oldq.lt;omega)
 clear hC hx hn hu
 generalize hnp:Q.pr.length=np at *
 generalize hpc:Q.pc=pc at *
 generalize hw1:w.alloc (.cells (insc insZ) 65)=w1 at *
 generalize hzz:w.heap.size=p at *
 go_enter Tryz.func100,Tryz.ntmps100
 go_wp2_with fail
 go_quiet (fail)
 go_wp2_with fail
 have n1:¬p=kb:=HPP.out.1
 have n2:¬kb=p:=fun e=>HPP.out.1 e.symm
 have HQ:=Vh ((Chg.refl [] w1).drewN nq)
 have HC2:=Vh (HC.out.keep0 HQ.out)
 have hz2:=HQ.out.keep hz (by simp)
 have hb2:=HQ.out.keep hb1 (by simp)
 have HG2:=Vh (HC1.out.trans HQ.out)
 clear hz hb1 HQ
 generalize w1.drewN nq=w2 at *
 have hb2d:=((Chg.refl [] w2).drew).keep hb2 (by simp)
 have hz2d:=((Chg.refl [] w2).drew).keep hz2 (by simp)
 go_region_held3 (fun w'=>w'.heap[kb]? =some (.cells (coc Q.id Q.ru Q.rg pb np pc qb Q.wt) 124 (0,0)))
  (first |with_reducible exact hb2d|with_reducible exact hb4|(rw [Qc _ _ _ _ _ (by simp [hz4,ZX,Fit,QE]),if_neg n2];with_reducible exact hb4))
  (first |(go_at_call 134;refine (HI.out _ (HC2.out.keep0 ((Chg.refl [] w2).drew))).mono ?_;rintro e w4 ⟨rfl,c4,s4⟩;have hz4:=c4.keep hz2d (by simpa using HPP.out.2.1);have hb4:=c4.keep hb2d (by simpa using HC2.out.kp)))
 all_goals
  rename World=>w4
  go_wp2_with fail
  have cp:Chg [p] w4 (putRow w4 p 0 (insc (decI u))):=(Chg.refl [p] w4).putRow p 0 _ (.inl (by simp))
  refine bodyPost_ret (v:=.tuple #[.agg (insc (decI u)),.bool (decB u)]) (J7 (by rfl) _ _ p (decI u) (0,0) (by rfl) (by rw [Qc _ _ _ _ _ (by rw [hz4];simp [ZX,Fit,QE]),if_pos rfl,hz4];exact Qg _ _ _ _ (by rw [QE,QE])) _ (by rfl)) (by rfl) ⟨rfl,(HR.out _ _ (HC2.out.keep0 ((Chg.refl [] w2).drew)) c4 s4).keep cp (by simpa using n2) (by simpa using fun e=>HPP.out.2.1 e.symm) (by simpa using fun e=>HPP.out.2.2 e.symm),(((HG2.out.drew.mono (by simp)).trans c4).putRow p 0 _ (.inr (by omega)))⟩
end
end
section
section
variable {P:Program} {md:Region.Mode} {ops:Array Oper} {C:World→Prop}
def waysQ (P:Program) (md:Region.Mode) (ops:Array Oper) (C:World→Prop) (n:Nat) (L:Array Bool→Act→Prop):Nat→Array Bool→Act→Prop
 |0,ls,a=>L ls a
 |f+1,ls,a=>Region.ready md ops ls≠[]∧∀i∈Region.ready md ops ls,i<n∧qOp P ops C i (waysQ P md ops C n L f (ls.setIfInBounds i true)) a
theorem waysQ.any {n g:Nat} {L:Array Bool→Act→Prop} {Q':Exit→Act→World→Prop} (hL:∀ls a w,C w→L ls a→wpAny P md ops Q' g ls a w):
 ∀(f:Nat) (ls:Array Bool) (a:Act) (w:World),C w→waysQ P md ops C n L f ls a→wpAny P md ops Q' (f+g) ls a w:=by
 intro f
 induction f with
 |zero=>
  intro ls a w hw h
  rw [Nat.zero_add]
  exact hL ls a w hw h
 |succ f ih=>
  intro ls a w hw h
  rw [Nat.add_right_comm]
  exact ⟨fun e=>(h.1 e).elim,fun i hi=>wpOp_of_qOp hw (fun a' w' hw' h'=>ih _ a' w' hw' h') (h.2 i hi).2⟩
theorem waysQ.first {n i:Nat} {oi:Oper} {v:Value} {L:Array Bool→Act→Prop} (hi:ops[i]? =some oi) (hsel:∀(j:Nat) (o:Oper) cs b,ops[j]? =some o→o.op≠.select cs b)
 (hs:Region.sinkB md ops n=true) (hc:Region.chainB md ops n=true) (hn:n<ops.size) (hin:i<n) (hend:∀ls a,L ls a→∀j∈Region.ready md ops ls,n≤j):
 ∀(f:Nat) (ls:Array Bool) (a:Act),HeadInv md ops n ls→(∀j oj,ops[j]? =some oj→j≠i→ls.getD j true=false→(∀e∈oj.after,Region.binds md e=true→e.on≠i)→oi.apart ops oj=true)→
  i∈Region.ready md ops ls→YieldsIn P ops C oi v a→waysQ P md ops C n L f (ls.setIfInBounds i true) (a.put oi.dst v)→waysQ P md ops C n L (f+1) ls a:=by
 intro f
 induction f with
 |zero=>
  intro ls a inv _ hr hy H
  refine ⟨fun e=>(by rw [e] at hr;cases hr),fun j hj=>?_⟩
  have hjn:j<n:=Nat.lt_of_not_le fun e=>tail_waits hs hc hn inv _ i rfl hin (mem_ready.1 hr).1 j e hj
  refine ⟨hjn,?_⟩
  by_cases hji:j=i
  ·rw [hji];exact hy.qOp hi H
  ·exact absurd hjn (Nat.not_lt_of_le (hend _ _ H j (ready_mono hj hji)))
 |succ f ih=>
  intro ls a inv hfree hr hy H
  refine ⟨fun e=>(by rw [e] at hr;cases hr),fun j hj=>?_⟩
  have hjn:j<n:=Nat.lt_of_not_le fun e=>tail_waits hs hc hn inv _ i rfl hin (mem_ready.1 hr).1 j e hj
  refine ⟨hjn,?_⟩
  by_cases hji:j=i
  ·rw [hji];exact hy.qOp hi H
  ·obtain ⟨hju,oj,hoj,hall⟩:=mem_ready.1 hj
   have hno:∀e∈oj.after,Region.binds md e=true→e.on≠i:=by
    intro e he hb heq
    have h1:=hall e he hb
    rw [heq,getD_both (mem_ready.1 hr).1] at h1
    cases h1
   refine qOp_mono (fun a' h3=>ih _ a' (inv.set hj hjn) ?_ (ready_mono hr (Ne.symm hji)) h3.1 ?_) (qOp_put hoj (hfree j oj hoj hji hju hno) (fun cs b=>hsel i oi cs b hi) (fun cs b=>hsel j oj cs b hoj) hy (H.2 j (ready_mono hj hji)).2)
   ·intro k ok hk hki hu hno2
    refine hfree k ok hk hki ?_ hno2
    by_cases hjk:j=k
    ·rw [←hjk];exact hju
    ·rwa [getD_set_ne true hjk] at hu
   ·rw [Array.setIfInBounds_comm _ _ hji]
    exact h3.2
end
end
section
set_option maxRecDepth 100000
attribute [local go_sem ↓] Qv QF Qx QP QG Qs Qk Qh heap_alloc Ql heap_setCell Qc X7 Xl Xd ZF Yj Xs Yi Xr X1 X0 XW XX XY Xe XK XJ XI Xg Yq Yr Yp Ym Yn YC Yy Xv YA YB Yz Yx
attribute [local go_sem] Qb Qa Qe Qi Qd Qg Qf QB Qw QN QL QM Q6 QJ QA Qr QD QX QI Qq QC Qp Qj Qo Qn XV Xb Yh Q5 Xm Xn JC XZ ZU ZT ZS ZR X6 X5 X2 X3 X4 QE ZI Xf ZJ XH Q8 Xt Yo Xu JP Z3 Z2 Z1 Z0 ZZ Yv Yw Yu Ys Yt ZY QS QT QR QK Qt Zk
attribute [local simp ↓] Qk Qh heap_alloc Ql heap_setCell Qc
attribute [local simp] Qb Qa Qe Qi Qd Qg Qf Qr Qj Qo Qn Q5 QE Q8 QS QT QR QK Qt QD
attribute [local go_sem ↓] Qh
theorem CS.setReg {W w:World} {c:Cg} {sy:Nat} {F:List Nat} {S:Mst} {kb pb qb:Nat} {Q:Co} (h:CS W w c sy F S kb pb qb Q) {a:Nat} (ha:a<8) {v:Int} (hv:0≤v):CS W (w.setCell ⟨kb,2+a,none⟩ (.int .u64 v)) c sy F S kb pb qb (setR Q a v):=
 h.core ((Chg.refl [kb,pb,qb] w).setCell kb _ _ (.inl (by simp))) (h.co.setReg ha hv)
section
variable {W w:World} {c:Cg} {sy n:Nat} {F:List Nat} {S:Mst} {cur:Nat→List Int} {kb pb qb:Nat} {Q:Co} (h:CS W w c sy F S kb pb qb Q) (hI:Inv c n S cur) (hN:NN cur) (hn:n+1≤1000000000) (hR:Roomy c S) (hR2:∀li wo,Roomy c (loadM c S Q.id li wo).1) (hT:Tab W) {u:Int} {r:Bool} (hru:Q.ru=true) (hx:Q.pr[Q.pc]? =some (u,r))
include h hI hN hn hR hR2 hT hru hx
theorem xexec_bad (hd:decB u=false):Calls Tryz.prog 78 #[.pointer (some ⟨kb,0,none⟩),.pointer (some ⟨sy,0,none⟩)] w (CSTo W w c sy F kb pb qb S (Qfc (QO Q u)) [evC Q 10 0 0 0]):=by
 have _:=hI
 have _:=hN
 have _:=hn
 have _:=hR
 have _:=hR2
 have _:=hT
 have DH:=Qbs h.co hx
 rw [hd] at DH
 have HD:=Vh DH
 have RU:=Qa7 h.co.own
 rw [hru] at RU
 have HRU:=Vh RU
 have H1:=Vh (fun (w1:World) (hc:Chg [pb] w w1) (hC:Cor w1 kb pb qb (QO Q u))=>h.core (hc.mono (by simp)) hC)
 have ED:=Vh (fun (w':World) (h':CS W w' c sy F S kb pb qb (QO Q u)) (kd:Int)=>(dend h'.co h'.old kd).mono fun e w' hd=>h'.ofCo hd)
 clear h hI hN hn hR hR2 hT hru hx hd DH RU
 go_enter Tryz.func78,Tryz.ntmps78
 try dsimp only [List.append]
 go_wp2_with (first |(go_at_call 63;refine HRU.out.mono ?_;rintro e w' ⟨rfl,rfl⟩)|(go_at_call 100;refine HD.out.mono ?_;rintro e w1 ⟨rfl,hC1,hc1⟩;have H1:=Vh (H1.out w1 hc1 hC1);have C1:=Vh hc1;clear hC1 hc1))
 have C2:Chg [] w1 (w1.alloc (.cells (insc (decI u)) 65)):=(Chg.refl [] w1).alloc _
 refine (ED.out _ (H1.out.keep0 C2) 10).mono ?_
 rintro e w4 ⟨v,F',rfl,hd⟩
 go_wp2_with fail
 go_ret
 exact CSTo.from (Z7 ((C1.out.mono (by simp)).trans (C2.mono (by simp)))) (fun k hk=>.inl hk) ⟨v,F',rfl,hd⟩
theorem xexec_0 (hd:decB u=true) (hk:(Qz u).op=0):Calls Tryz.prog 78 #[.pointer (some ⟨kb,0,none⟩),.pointer (some ⟨sy,0,none⟩)] w (CSTo W w c sy F kb pb qb S (YM (QO Q u)) []):=by
 have _:=hI
 have _:=hN
 have _:=hn
 have _:=hR
 have _:=hR2
 have _:=hT
 have hg:YY (Qz u)=true:=by unfold decB at hd;rw [Bool.and_eq_true] at hd;exact hd.1
 obtain ⟨_,ga,gb,gc,gm⟩:=Zw hg
 have hpl:=(Vg hx).1
 have hpn:=h.co.ok.np
 have hp:(QO Q u).pc<2147483648:=by show Q.pc<_;omega
 have DH:=Qbs h.co hx
 rw [hd,show decI u=Qz u by unfold decI;rw [hd];rfl] at DH
 have HD:=Vh DH
 have RU:=Qa7 h.co.own
 rw [hru] at RU
 have HRU:=Vh RU
 have HP:=Vh hp
 have H1:=Vh (fun (w1:World) (hc:Chg [pb] w w1) (hC:Cor w1 kb pb qb (QO Q u))=>h.core (hc.mono (by simp)) hC)
 have EN:=Vh (fun (w':World) (Q':Co) (h':CS W w' c sy F S kb pb qb Q') (hp:Q'.pc<2147483648)=>(Qam h'.co h'.old hp).mono fun e w' hd=>h'.ofCo hd)
 have h8:(QO Q u).rg.length=8:=h.co.ok.h8
 clear h hI hN hn hR hR2 hT hru hx hd DH RU ga gb gc gm hg hpl hpn hp
 generalize Qz u=i at *
 generalize QO Q u=Q1 at *
 go_enter Tryz.func78,Tryz.ntmps78
 try dsimp only [List.append]
 go_wp2_with (first |(go_at_call 63;refine HRU.out.mono ?_;rintro e w' ⟨rfl,rfl⟩)|(go_at_call 100;refine HD.out.mono ?_;rintro e w1 ⟨rfl,hC1,hc1⟩;have hb1:=hC1.own;have H1:=Vh (H1.out w1 hc1 hC1);have C1:=Vh hc1;clear hC1 hc1))
 have hx2:(w1.alloc (.cells (insc i) 65)).heap[w1.heap.size]? =some (.cells (insc i) 65 (0,0)):=by simp
 have C2:=Vh (show Chg [] w1 (w1.alloc (.cells (insc i) 65)) from (Chg.refl [] w1).alloc _)
 have hb2:=C2.out.keep hb1 (by simp)
 have H2:=Vh (H1.out.keep0 C2.out)
 have HPK:=Vh (show w1.heap.size≠kb∧w1.heap.size∉F from ⟨by have:=H1.out.co.oldk.lt;omega,fun hm=>by have:=H1.out.old _ hm;omega⟩)
 have G2:=Vh (show Chg (kb::pb::qb::F) w (w1.alloc (.cells (insc i) 65)) from Z7 ((C1.out.mono (by simp)).trans (C2.out.mono (by simp))))
 clear hb1 H1 C1 C2 HD HRU
 generalize w1.alloc (.cells (insc i) 65)=w2 at *
 generalize w1.heap.size=p at *
 have o2:=old hb2
 have ox2:=old hx2
 have n1:¬p=kb:=HPK.out.1
 have n2:¬kb=p:=fun e=>HPK.out.1 e.symm
 refine (EN.out _ _ H2.out HP.out).mono ?_
 rintro e w4 ⟨v,F',rfl,hd⟩
 go_wp2_with fail
 go_ret
 exact CSTo.from G2.out (fun k hk=>.inl hk) ⟨v,F',rfl,hd⟩
theorem xexec_1 (hd:decB u=true) (hk:(Qz u).op=1):Calls Tryz.prog 78 #[.pointer (some ⟨kb,0,none⟩),.pointer (some ⟨sy,0,none⟩)] w (CSTo W w c sy F kb pb qb S (YM (setR (QO Q u) (Qz u).a (IntKind.u64.wrap (Qz u).im))) []):=by
 have _:=hI
 have _:=hN
 have _:=hn
 have _:=hR
 have _:=hR2
 have _:=hT
 have hg:YY (Qz u)=true:=by unfold decB at hd;rw [Bool.and_eq_true] at hd;exact hd.1
 obtain ⟨_,ga,gb,gc,gm⟩:=Zw hg
 have hpl:=(Vg hx).1
 have hpn:=h.co.ok.np
 have hp:(QO Q u).pc<2147483648:=by show Q.pc<_;omega
 have DH:=Qbs h.co hx
 rw [hd,show decI u=Qz u by unfold decI;rw [hd];rfl] at DH
 have HD:=Vh DH
 have RU:=Qa7 h.co.own
 rw [hru] at RU
 have HRU:=Vh RU
 have HP:=Vh hp
 have H1:=Vh (fun (w1:World) (hc:Chg [pb] w w1) (hC:Cor w1 kb pb qb (QO Q u))=>h.core (hc.mono (by simp)) hC)
 have EN:=Vh (fun (w':World) (Q':Co) (h':CS W w' c sy F S kb pb qb Q') (hp:Q'.pc<2147483648)=>(Qam h'.co h'.old hp).mono fun e w' hd=>h'.ofCo hd)
 obtain ⟨na,hna⟩:∃n:Nat,(Qz u).a=(n:Int):=⟨(Qz u).a.toNat,by omega⟩
 have la:na<8:=by omega
 have la':(na:Int)<8:=by omega
 rw [hna]
 have HV:=Vh (Qc0 (Qz u).im)
 have h8:(QO Q u).rg.length=8:=h.co.ok.h8
 clear h hI hN hn hR hR2 hT hru hx hd DH RU ga gb gc gm hg hpl hpn hp
 generalize Qz u=i at *
 generalize QO Q u=Q1 at *
 go_enter Tryz.func78,Tryz.ntmps78
 try dsimp only [List.append]
 go_wp2_with (first |(go_at_call 63;refine HRU.out.mono ?_;rintro e w' ⟨rfl,rfl⟩)|(go_at_call 100;refine HD.out.mono ?_;rintro e w1 ⟨rfl,hC1,hc1⟩;have hb1:=hC1.own;have H1:=Vh (H1.out w1 hc1 hC1);have C1:=Vh hc1;clear hC1 hc1))
 have hx2:(w1.alloc (.cells (insc i) 65)).heap[w1.heap.size]? =some (.cells (insc i) 65 (0,0)):=by simp
 have C2:=Vh (show Chg [] w1 (w1.alloc (.cells (insc i) 65)) from (Chg.refl [] w1).alloc _)
 have hb2:=C2.out.keep hb1 (by simp)
 have H2:=Vh (H1.out.keep0 C2.out)
 have HPK:=Vh (show w1.heap.size≠kb∧w1.heap.size∉F from ⟨by have:=H1.out.co.oldk.lt;omega,fun hm=>by have:=H1.out.old _ hm;omega⟩)
 have G2:=Vh (show Chg (kb::pb::qb::F) w (w1.alloc (.cells (insc i) 65)) from Z7 ((C1.out.mono (by simp)).trans (C2.out.mono (by simp))))
 clear hb1 H1 C1 C2 HD HRU
 generalize w1.alloc (.cells (insc i) 65)=w2 at *
 generalize w1.heap.size=p at *
 have o2:=old hb2
 have ox2:=old hx2
 have n1:¬p=kb:=HPK.out.1
 have n2:¬kb=p:=fun e=>HPK.out.1 e.symm
 go_region
 all_goals
  go_wp2_with fail
  have cS:Chg [kb,pb,qb] w2 (w2.setCell ⟨kb,2+na,none⟩ (.int .u64 (IntKind.u64.wrap i.im))).drew:=((Chg.refl [kb,pb,qb] w2).setCell kb _ _ (.inl (by simp))).drew
  refine (EN.out _ _ ((H2.out.setReg la HV.out).keep0 (Chg.refl [] _).drew) HP.out).mono ?_
  rintro e w4 ⟨v,F',rfl,hd⟩
  go_wp2_with fail
  go_ret
  exact CSTo.from (G2.out.trans (Z7 cS)) (fun k hk=>.inl hk) ⟨v,F',rfl,hd⟩
theorem xexec_8 (hd:decB u=true) (hk:(Qz u).op=8):Calls Tryz.prog 78 #[.pointer (some ⟨kb,0,none⟩),.pointer (some ⟨sy,0,none⟩)] w (CSTo W w c sy F kb pb qb (Xw c S (QO Q u) (Qz u)).S (Xw c S (QO Q u) (Qz u)).Q (Xw c S (QO Q u) (Qz u)).ev):=by
 exact Tz0
theorem xexec_9 (hd:decB u=true) (hk:(Qz u).op=9):Calls Tryz.prog 78 #[.pointer (some ⟨kb,0,none⟩),.pointer (some ⟨sy,0,none⟩)] w (CSTo W w c sy F kb pb qb (Xw c S (QO Q u) (Qz u)).S (Xw c S (QO Q u) (Qz u)).Q (Xw c S (QO Q u) (Qz u)).ev):=by
 exact Tz0
theorem xexec_10 (hd:decB u=true) (hk:(Qz u).op=10):Calls Tryz.prog 78 #[.pointer (some ⟨kb,0,none⟩),.pointer (some ⟨sy,0,none⟩)] w (CSTo W w c sy F kb pb qb (Xw c S (QO Q u) (Qz u)).S (Xw c S (QO Q u) (Qz u)).Q (Xw c S (QO Q u) (Qz u)).ev):=by
 exact Tz0
theorem xexec_11 (hd:decB u=true) (hk:(Qz u).op=11):Calls Tryz.prog 78 #[.pointer (some ⟨kb,0,none⟩),.pointer (some ⟨sy,0,none⟩)] w (CSTo W w c sy F kb pb qb (Xw c S (QO Q u) (Qz u)).S (Xw c S (QO Q u) (Qz u)).Q (Xw c S (QO Q u) (Qz u)).ev):=by
 exact Tz0
theorem xexec_12 (hd:decB u=true) (hk:(Qz u).op=12):Calls Tryz.prog 78 #[.pointer (some ⟨kb,0,none⟩),.pointer (some ⟨sy,0,none⟩)] w (CSTo W w c sy F kb pb qb (Xw c S (QO Q u) (Qz u)).S (Xw c S (QO Q u) (Qz u)).Q (Xw c S (QO Q u) (Qz u)).ev):=by
 exact Tz0
theorem xexec_13 (hd:decB u=true) (hk:(Qz u).op=13):Calls Tryz.prog 78 #[.pointer (some ⟨kb,0,none⟩),.pointer (some ⟨sy,0,none⟩)] w (CSTo W w c sy F kb pb qb (Xw c S (QO Q u) (Qz u)).S (Xw c S (QO Q u) (Qz u)).Q (Xw c S (QO Q u) (Qz u)).ev):=by
 exact Tz0
theorem xexec_14 (hd:decB u=true) (hk:(Qz u).op=14):Calls Tryz.prog 78 #[.pointer (some ⟨kb,0,none⟩),.pointer (some ⟨sy,0,none⟩)] w (CSTo W w c sy F kb pb qb (Xw c S (QO Q u) (Qz u)).S (Xw c S (QO Q u) (Qz u)).Q (Xw c S (QO Q u) (Qz u)).ev):=by
 exact Tz0
theorem xexec_15 (hd:decB u=true) (hk:(Qz u).op=15):Calls Tryz.prog 78 #[.pointer (some ⟨kb,0,none⟩),.pointer (some ⟨sy,0,none⟩)] w (CSTo W w c sy F kb pb qb S (if YQ (QO Q u) then YM (QO Q u) else QO Q u) (if YQ (QO Q u) then [evC (QO Q u) 7 0 0 0] else [])):=by
 exact Tz8
theorem xexec_16 (hd:decB u=true) (hk:(Qz u).op=16):Calls Tryz.prog 78 #[.pointer (some ⟨kb,0,none⟩),.pointer (some ⟨sy,0,none⟩)] w (CSTo W w c sy F kb pb qb S (if YQ (QO Q u) then YM (QO Q u) else QO Q u) (if YQ (QO Q u) then [evC (QO Q u) 7 0 0 0] else [])):=by
 exact Tz8
theorem xexec_17 (hd:decB u=true) (hk:(Qz u).op=17):Calls Tryz.prog 78 #[.pointer (some ⟨kb,0,none⟩),.pointer (some ⟨sy,0,none⟩)] w (CSTo W w c sy F kb pb qb S (if goV (Qz u).op (regA (QO Q u) (Qz u).a) (regA (QO Q u) (Qz u).b) then {QO Q u with pc:=(Qz u).im.toNat} else YM (QO Q u)) []):=by
 have _:=hI
 have _:=hN
 have _:=hn
 have _:=hR
 have _:=hR2
 have _:=hT
 have hg:YY (Qz u)=true:=by unfold decB at hd;rw [Bool.and_eq_true] at hd;exact hd.1
 obtain ⟨_,ga,gb,gc,gm⟩:=Zw hg
 have hpl:=(Vg hx).1
 have hpn:=h.co.ok.np
 have hp:(QO Q u).pc<2147483648:=by show Q.pc<_;omega
 have DH:=Qbs h.co hx
 rw [hd,show decI u=Qz u by unfold decI;rw [hd];rfl] at DH
 have HD:=Vh DH
 have RU:=Qa7 h.co.own
 rw [hru] at RU
 have HRU:=Vh RU
 have HP:=Vh hp
 have H1:=Vh (fun (w1:World) (hc:Chg [pb] w w1) (hC:Cor w1 kb pb qb (QO Q u))=>h.core (hc.mono (by simp)) hC)
 have hgm:0≤(Qz u).im∧(Qz u).im≤2147483647:=by
  have h1:JJ (Qz u).im (Qz u).op=true:=by simp only [YY,Bool.and_eq_true] at hg;exact hg.2.2.2.2
  rw [hk] at h1
  unfold JJ XR at h1
  have e1:hasI 17=true:=by decide
  have e2:Qac 17=true:=by decide
  rw [e1,e2] at h1
  simp at h1
  omega
 exact Tz3
theorem xexec_18 (hd:decB u=true) (hk:(Qz u).op=18):Calls Tryz.prog 78 #[.pointer (some ⟨kb,0,none⟩),.pointer (some ⟨sy,0,none⟩)] w (CSTo W w c sy F kb pb qb S (if goV (Qz u).op (regA (QO Q u) (Qz u).a) (regA (QO Q u) (Qz u).b) then {QO Q u with pc:=(Qz u).im.toNat} else YM (QO Q u)) []):=by
 have _:=hI
 have _:=hN
 have _:=hn
 have _:=hR
 have _:=hR2
 have _:=hT
 have hg:YY (Qz u)=true:=by unfold decB at hd;rw [Bool.and_eq_true] at hd;exact hd.1
 obtain ⟨_,ga,gb,gc,gm⟩:=Zw hg
 have hpl:=(Vg hx).1
 have hpn:=h.co.ok.np
 have hp:(QO Q u).pc<2147483648:=by show Q.pc<_;omega
 have DH:=Qbs h.co hx
 rw [hd,show decI u=Qz u by unfold decI;rw [hd];rfl] at DH
 have HD:=Vh DH
 have RU:=Qa7 h.co.own
 rw [hru] at RU
 have HRU:=Vh RU
 have HP:=Vh hp
 have H1:=Vh (fun (w1:World) (hc:Chg [pb] w w1) (hC:Cor w1 kb pb qb (QO Q u))=>h.core (hc.mono (by simp)) hC)
 have hgm:0≤(Qz u).im∧(Qz u).im≤2147483647:=by
  have h1:JJ (Qz u).im (Qz u).op=true:=by simp only [YY,Bool.and_eq_true] at hg;exact hg.2.2.2.2
  rw [hk] at h1
  unfold JJ XR at h1
  have e1:hasI 18=true:=by decide
  have e2:Qac 18=true:=by decide
  rw [e1,e2] at h1
  simp at h1
  omega
 exact Tz3
theorem xexec_19 (hd:decB u=true) (hk:(Qz u).op=19):Calls Tryz.prog 78 #[.pointer (some ⟨kb,0,none⟩),.pointer (some ⟨sy,0,none⟩)] w (CSTo W w c sy F kb pb qb S (if goV (Qz u).op (regA (QO Q u) (Qz u).a) (regA (QO Q u) (Qz u).b) then {QO Q u with pc:=(Qz u).im.toNat} else YM (QO Q u)) []):=by
 have _:=hI
 have _:=hN
 have _:=hn
 have _:=hR
 have _:=hR2
 have _:=hT
 have hg:YY (Qz u)=true:=by unfold decB at hd;rw [Bool.and_eq_true] at hd;exact hd.1
 obtain ⟨_,ga,gb,gc,gm⟩:=Zw hg
 have hpl:=(Vg hx).1
 have hpn:=h.co.ok.np
 have hp:(QO Q u).pc<2147483648:=by show Q.pc<_;omega
 have DH:=Qbs h.co hx
 rw [hd,show decI u=Qz u by unfold decI;rw [hd];rfl] at DH
 have HD:=Vh DH
 have RU:=Qa7 h.co.own
 rw [hru] at RU
 have HRU:=Vh RU
 have HP:=Vh hp
 have H1:=Vh (fun (w1:World) (hc:Chg [pb] w w1) (hC:Cor w1 kb pb qb (QO Q u))=>h.core (hc.mono (by simp)) hC)
 have hgm:0≤(Qz u).im∧(Qz u).im≤2147483647:=by
  have h1:JJ (Qz u).im (Qz u).op=true:=by simp only [YY,Bool.and_eq_true] at hg;exact hg.2.2.2.2
  rw [hk] at h1
  unfold JJ XR at h1
  have e1:hasI 19=true:=by decide
  have e2:Qac 19=true:=by decide
  rw [e1,e2] at h1
  simp at h1
  omega
 exact Tz3
theorem xexec_20 (hd:decB u=true) (hk:(Qz u).op=20):Calls Tryz.prog 78 #[.pointer (some ⟨kb,0,none⟩),.pointer (some ⟨sy,0,none⟩)] w (CSTo W w c sy F kb pb qb S (if goV (Qz u).op (regA (QO Q u) (Qz u).a) (regA (QO Q u) (Qz u).b) then {QO Q u with pc:=(Qz u).im.toNat} else YM (QO Q u)) []):=by
 have _:=hI
 have _:=hN
 have _:=hn
 have _:=hR
 have _:=hR2
 have _:=hT
 have hg:YY (Qz u)=true:=by unfold decB at hd;rw [Bool.and_eq_true] at hd;exact hd.1
 obtain ⟨_,ga,gb,gc,gm⟩:=Zw hg
 have hpl:=(Vg hx).1
 have hpn:=h.co.ok.np
 have hp:(QO Q u).pc<2147483648:=by show Q.pc<_;omega
 have DH:=Qbs h.co hx
 rw [hd,show decI u=Qz u by unfold decI;rw [hd];rfl] at DH
 have HD:=Vh DH
 have RU:=Qa7 h.co.own
 rw [hru] at RU
 have HRU:=Vh RU
 have HP:=Vh hp
 have H1:=Vh (fun (w1:World) (hc:Chg [pb] w w1) (hC:Cor w1 kb pb qb (QO Q u))=>h.core (hc.mono (by simp)) hC)
 have hgm:0≤(Qz u).im∧(Qz u).im≤2147483647:=by
  have h1:JJ (Qz u).im (Qz u).op=true:=by simp only [YY,Bool.and_eq_true] at hg;exact hg.2.2.2.2
  rw [hk] at h1
  unfold JJ XR at h1
  have e1:hasI 20=true:=by decide
  have e2:Qac 20=true:=by decide
  rw [e1,e2] at h1
  simp at h1
  omega
 exact Tz3
theorem xexec_21 (hd:decB u=true) (hk:(Qz u).op=21):Calls Tryz.prog 78 #[.pointer (some ⟨kb,0,none⟩),.pointer (some ⟨sy,0,none⟩)] w (CSTo W w c sy F kb pb qb S (YM (QO Q u)) [evC (QO Q u) 8 0 0 (regA (QO Q u) (Qz u).a)]):=by
 have _:=hI
 have _:=hN
 have _:=hn
 have _:=hR
 have _:=hR2
 have _:=hT
 have hg:YY (Qz u)=true:=by unfold decB at hd;rw [Bool.and_eq_true] at hd;exact hd.1
 obtain ⟨_,ga,gb,gc,gm⟩:=Zw hg
 have hpl:=(Vg hx).1
 have hpn:=h.co.ok.np
 have hp:(QO Q u).pc<2147483648:=by show Q.pc<_;omega
 have DH:=Qbs h.co hx
 rw [hd,show decI u=Qz u by unfold decI;rw [hd];rfl] at DH
 have HD:=Vh DH
 have RU:=Qa7 h.co.own
 rw [hru] at RU
 have HRU:=Vh RU
 have HP:=Vh hp
 have H1:=Vh (fun (w1:World) (hc:Chg [pb] w w1) (hC:Cor w1 kb pb qb (QO Q u))=>h.core (hc.mono (by simp)) hC)
 obtain ⟨na,hna⟩:∃n:Nat,(Qz u).a=(n:Int):=⟨(Qz u).a.toNat,by omega⟩
 have la:na<8:=by omega
 have la':(na:Int)<8:=by omega
 have ea:regA (QO Q u) (Qz u).a=regN (QO Q u).rg na:=by unfold regA;rw [hna,Int.toNat_natCast]
 rw [ea]
 clear ea
 have h8:(QO Q u).rg.length=8:=h.co.ok.h8
 clear h hI hN hn hR hR2 hT hru hx hd DH RU ga gb gc gm hg hpl hpn hp
 generalize Qz u=i at *
 generalize QO Q u=Q1 at *
 go_enter Tryz.func78,Tryz.ntmps78
 try dsimp only [List.append]
 go_wp2_with (first |(go_at_call 63;refine HRU.out.mono ?_;rintro e w' ⟨rfl,rfl⟩)|(go_at_call 100;refine HD.out.mono ?_;rintro e w1 ⟨rfl,hC1,hc1⟩;have hb1:=hC1.own;have H1:=Vh (H1.out w1 hc1 hC1);have C1:=Vh hc1;clear hC1 hc1))
 have hx2:(w1.alloc (.cells (insc i) 65)).heap[w1.heap.size]? =some (.cells (insc i) 65 (0,0)):=by simp
 have C2:=Vh (show Chg [] w1 (w1.alloc (.cells (insc i) 65)) from (Chg.refl [] w1).alloc _)
 have hb2:=C2.out.keep hb1 (by simp)
 have H2:=Vh (H1.out.keep0 C2.out)
 have HPK:=Vh (show w1.heap.size≠kb∧w1.heap.size∉F from ⟨by have:=H1.out.co.oldk.lt;omega,fun hm=>by have:=H1.out.old _ hm;omega⟩)
 have G2:=Vh (show Chg (kb::pb::qb::F) w (w1.alloc (.cells (insc i) 65)) from Z7 ((C1.out.mono (by simp)).trans (C2.out.mono (by simp))))
 clear hb1 H1 C1 C2 HD HRU
 generalize w1.alloc (.cells (insc i) 65)=w2 at *
 generalize w1.heap.size=p at *
 have o2:=old hb2
 have ox2:=old hx2
 have n1:¬p=kb:=HPK.out.1
 have n2:¬kb=p:=fun e=>HPK.out.1 e.symm
 have H3:=Vh (H2.out.keep0 ((Chg.refl [] w2).drew))
 have G3:=Vh (G2.out.drew)
 have hb3:=H3.out.co.own
 go_region_law (first |(go_simp;go_at_call 105;refine (Qcz hb3 8 0 0 (regN Q1.rg na)).mono ?_;rintro e w5 ⟨rfl,c5⟩;have HC5:=Vh c5;clear c5)|(go_simp;go_at_call 104;refine (Qfx H3.out.co H3.out.old HC5.out _ HP.out).mono ?_;rintro e w6 ⟨v,rfl,hv⟩))
 all_goals
  go_wp2_with fail
  go_ret
  exact CSTo.from G3.out (fun k hk=>.inl hk) (H3.out.ofCo ⟨v,rfl,hv⟩)
theorem xexec_22 (hd:decB u=true) (hk:(Qz u).op=22):Calls Tryz.prog 78 #[.pointer (some ⟨kb,0,none⟩),.pointer (some ⟨sy,0,none⟩)] w (CSTo W w c sy F kb pb qb S (Qfc (QO Q u)) [evC (QO Q u) 9 0 0 0]):=by
 have _:=hI
 have _:=hN
 have _:=hn
 have _:=hR
 have _:=hR2
 have _:=hT
 have hg:YY (Qz u)=true:=by unfold decB at hd;rw [Bool.and_eq_true] at hd;exact hd.1
 obtain ⟨_,ga,gb,gc,gm⟩:=Zw hg
 have hpl:=(Vg hx).1
 have hpn:=h.co.ok.np
 have hp:(QO Q u).pc<2147483648:=by show Q.pc<_;omega
 have DH:=Qbs h.co hx
 rw [hd,show decI u=Qz u by unfold decI;rw [hd];rfl] at DH
 have HD:=Vh DH
 have RU:=Qa7 h.co.own
 rw [hru] at RU
 have HRU:=Vh RU
 have HP:=Vh hp
 have H1:=Vh (fun (w1:World) (hc:Chg [pb] w w1) (hC:Cor w1 kb pb qb (QO Q u))=>h.core (hc.mono (by simp)) hC)
 have ED:=Vh (fun (w':World) (h':CS W w' c sy F S kb pb qb (QO Q u)) (kd:Int)=>(dend h'.co h'.old kd).mono fun e w' hd=>h'.ofCo hd)
 have h8:(QO Q u).rg.length=8:=h.co.ok.h8
 clear h hI hN hn hR hR2 hT hru hx hd DH RU ga gb gc gm hg hpl hpn hp
 generalize Qz u=i at *
 generalize QO Q u=Q1 at *
 go_enter Tryz.func78,Tryz.ntmps78
 try dsimp only [List.append]
 go_wp2_with (first |(go_at_call 63;refine HRU.out.mono ?_;rintro e w' ⟨rfl,rfl⟩)|(go_at_call 100;refine HD.out.mono ?_;rintro e w1 ⟨rfl,hC1,hc1⟩;have hb1:=hC1.own;have H1:=Vh (H1.out w1 hc1 hC1);have C1:=Vh hc1;clear hC1 hc1))
 have hx2:(w1.alloc (.cells (insc i) 65)).heap[w1.heap.size]? =some (.cells (insc i) 65 (0,0)):=by simp
 have C2:=Vh (show Chg [] w1 (w1.alloc (.cells (insc i) 65)) from (Chg.refl [] w1).alloc _)
 have hb2:=C2.out.keep hb1 (by simp)
 have H2:=Vh (H1.out.keep0 C2.out)
 have HPK:=Vh (show w1.heap.size≠kb∧w1.heap.size∉F from ⟨by have:=H1.out.co.oldk.lt;omega,fun hm=>by have:=H1.out.old _ hm;omega⟩)
 have G2:=Vh (show Chg (kb::pb::qb::F) w (w1.alloc (.cells (insc i) 65)) from Z7 ((C1.out.mono (by simp)).trans (C2.out.mono (by simp))))
 clear hb1 H1 C1 C2 HD HRU
 generalize w1.alloc (.cells (insc i) 65)=w2 at *
 generalize w1.heap.size=p at *
 have o2:=old hb2
 have ox2:=old hx2
 have n1:¬p=kb:=HPK.out.1
 have n2:¬kb=p:=fun e=>HPK.out.1 e.symm
 refine (ED.out _ H2.out 9).mono ?_
 rintro e w4 ⟨v,F',rfl,hd⟩
 go_wp2_with fail
 go_ret
 exact CSTo.from G2.out (fun k hk=>.inl hk) ⟨v,F',rfl,hd⟩
end
end
end Go.Proofs.YtlidfghgjjffaaaGreatDoor
