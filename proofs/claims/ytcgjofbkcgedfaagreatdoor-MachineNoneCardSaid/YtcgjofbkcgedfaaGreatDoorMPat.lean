/- Texts of the walk, one behind the other: Mcp Mcq Mcr Mcs Mct Mcu Mcv Mcw. No condition. -/
import Derived.Test.YtcgjofbkcgedfaaGreatDoorMPaa
import Derived.Test.YtcgjofbkcgedfaaGreatDoorMPas
namespace Go.Proofs.YtcgjofbkcgedfaaGreatDoor
open Go.RowKit
set_option linter.unusedVariables false
set_option maxHeartbeats 1000000
set_option maxRecDepth 100000
attribute [local go_sem ↓] Qv QF Qy QO QE Qs Qk Qh heap_alloc Ql heap_setCell Qc Yq Xu Xg ZP YD XA YC Xz Yi Yh Yd Ye Yf Xh XW XV XU Xj YK YL YJ YG YH YX YT XE YV YW YU YS Qbz J9 Qca Qcb Qb9 Qbv Qby Qbw Qbx
attribute [local go_sem] Qb Qa Qd Qi Qe Qg Qf QB Qw QN QL QM Q5 QK QA Qr QD QW QJ Qq QC Qp Qj Qo Qn Yc Xf YB Q8 Xv Xw JT Yg ZZ ZY ZX ZW Yn Ym Yj Yk Yl QG ZQ Xi ZR XT Zc XB YI XC Qad Xa Z9 Z8 Z7 Z6 YP YQ YO YM YN Z3 QY QZ QX QP Qt Zk Qbt ZU JX Qb8 JY Y2 Xd
attribute [local simp ↓] Qk Qh heap_alloc Ql heap_setCell Qc
attribute [local simp] Qb Qa Qd Qi Qe Qg Qf Qr Qj Qo Qn Q8 QG Zc QY QZ QX QP Qt QD ZU Xd
attribute [local go_sem ↓] Qh
section
attribute [local go_sem ↓] Qgq cg_li cg_vo cg_qu
attribute [local go_sem] Qgm Qbp Qgv Qds
theorem cg_co (c:Cg):c.cells[0]? =some (.int .i64 c.co):=rfl
theorem cg_st (c:Cg):c.cells[6]? =some (.int .i64 c.st):=rfl
attribute [local go_sem ↓] cg_co cg_st
def mue (v:Int):List Value:=[.int .u64 v]
theorem mu_info:(Tryz.prog.info? 46).map (fun i=>(i.zero,i.size,i.bytes))=some (some (.int .u64 0),1,8):=by kernel_rfl
theorem eltMu:Elt Tryz.prog 26 46 1 8 (.int .u64 0) mue where
 slice:=Tryz.underlying26
 info:=mu_info
 zero:=rfl
 zone:=by intro v hv;simp [Value.cells] at hv;subst hv;rfl
 pos:=by omega
 len:=fun _=>rfl
 one:=by intro x v hv;simp only [mue,List.mem_singleton] at hv;subst hv;rfl
theorem cat_mue (l:List Int):cat mue l=l.map (Value.int .u64):=by
 induction l with
 |nil=>rfl
 |cons a l ih=>rw [XY,ih];rfl
theorem uclone (A:Option Addr) (n c:Nat) (xs:List Int) (w:World) (h:Sl w 1 A n (xs.map (Value.int .u64))) (hn:xs.length=n) (hn2:n≤4096):
 Calls Tryz.prog 36 #[.slice A n c] w fun e w'=>∃A' c',e=.returned (.slice A' n c')∧Sl w' 1 A' n (xs.map (Value.int .u64))∧(0<n→∀a,A'=some a→w.heap.size≤a.block)∧Chg [] w w':=by
 have hq:=fun w A=>Lib.run_eql_slice_nil (P:=Tryz.prog) w 26 46 A n c 0 0 Tryz.underlying26
 cases A with
 |none=>
  have h0:n=0:=by
   rcases h.2 with h0|⟨b,o,c,t,f,he,_⟩
   ·exact h0
   ·cases he
  have HS:=Vh h
  have H0:=Vh h0
  clear h h0
  go_enter Tryz.func36,Tryz.ntmps36
  go_wp2
  go_ret
  refine ⟨none,0,by rw [H0.out];rfl,HS.out,fun _ a ha=>(by cases ha),Chg.refl _ _⟩
 |some a=>
  have hr:∃(A':Option Addr) (c':Nat) (w':World),appR Tryz.prog 26 26 #[.slice (some ⟨w.heap.size,0,none⟩) 0 0,.slice (some a) n c] (w.alloc (.cells #[] 46))=.ok (.slice A' n c') w'∧Sl w' 1 A' n (xs.map (Value.int .u64))∧Chg [] w w'∧(0<n→∀a,A'=some a→w.heap.size≤a.block):=by
   have h':=h.chg ((Chg.refl [] w).alloc (.cells #[] 46)) (by simp)
   have c0:=(Chg.refl [] w).alloc (.cells #[] 46)
   generalize hw1:w.alloc (.cells #[] 46)=w1 at *
   have hz1:w.heap.size≤w1.heap.size:=c0.size
   obtain ⟨i0,hi0,hz0,hz1',hz2⟩:=info_parts eltMu.info
   rcases Nat.eq_zero_or_pos n with h0|h0
   ·subst h0
    exact ⟨_,_,_,Qf4 eltMu.slice hi0 w1 ⟨w.heap.size,0,none⟩ (some a) c,⟨by rw [List.length_map,hn],.inl rfl⟩,c0,fun h=>by omega⟩
   ·rw [←cat_mue] at h' ⊢
    have hc:=clone_elts (ty:=26) eltMu w1 ⟨w.heap.size,0,none⟩ (some a) n c xs h' hn (by omega) Cz17
    rw [←hz1'] at h'
    have hrun:=Qe2 (ty:=26) eltMu.slice hi0 hz0 w1 ⟨w.heap.size,0,none⟩ (some a) n c _ h' h0 Cz17 (by rw [hz2];omega)
    obtain ⟨A',c',w',e1,e2,e3⟩:=hc
    refine ⟨A',c',w',e1,e2,c0.trans e3,fun _ b hb=>?_⟩
    rw [hrun] at e1
    cases e1
    cases hb
    exact hz1
  obtain ⟨A',c',w2,happ,hs2,hc2,hle⟩:=hr
  have HS2:=Vh hs2
  have HC2:=Vh hc2
  have HLE:=Vh hle
  clear h hs2 hc2 hn hle
  go_enter Tryz.func36,Tryz.ntmps36
  go_wp2
  go_ret
  exact ⟨A',c',rfl,HS2.out,HLE.out,HC2.out⟩
def ImgIs (c:Cg) (w:World) (A:Option Addr) (n:Nat) (ys:List Int):Prop:=
 (n=0∧ys=List.replicate (c.li*8) 0)∨(n=c.li∧∃zs:List Int,zs.length=c.li*8∧(∀x∈zs,0≤x)∧Sl w 8 A c.li (zs.map (Value.int .u64))∧ys=J4 zs c.vo)
theorem ImgIs.keep {c:Cg} {w w':World} {A:Option Addr} {n:Nat} {ys:List Int} (h:ImgIs c w A n ys) (hc:Chg [] w w'):ImgIs c w' A n ys:=by
 rcases h with h|⟨h1,zs,h2,h3,h4,h5⟩
 ·exact .inl h
 ·exact .inr ⟨h1,zs,h2,h3,h4.keep0 hc (fun _ _ _=>Vn),h5⟩
theorem mnew_of (W w:World) (c:Cg) (hc:c.Ok) (hW:Chg [] W w) (A:Option Addr) (n nc:Nat) (ys:List Int) (hi:ImgIs c w A n ys):Calls Tryz.prog 33 #[.agg c.cells,.slice A n nc] w fun e w'=>∃sy F,e=.returned (.tuple #[.pointer (some ⟨sy,0,none⟩),.int .i64 0])∧Mem W w' c sy F (List.replicate c.co (pt0 c)) (List.replicate c.li enE) [] ys∧Chg [] w w'∧∀k∈F,w.heap.size≤k:=by
 rcases hi with ⟨rfl,rfl⟩|⟨rfl,zs,h2,h3,h4,rfl⟩
 ·exact mnew_none W w c hc hW A nc
 ·exact mnew_img W w c hc hW A nc zs h4
def ProgsAre (w:World) (fs:List Rf) (us:List (List Int)):Prop:=∀(i:Nat) (r:Rf) (u:List Int),fs[i]? =some r→us[i]? =some u→r.n=u.length∧Sl w 1 r.A r.n (u.map (Value.int .u64))∧u.length≤4096∧∀x∈u,0≤x∧x<18446744073709551616
theorem ProgsAre.keep {w w':World} {fs:List Rf} {us:List (List Int)} (h:ProgsAre w fs us) (hc:Chg [] w w'):ProgsAre w' fs us:=fun i r u hr hu=>by
 obtain ⟨h1,h2,h3⟩:=h i r u hr hu
 exact ⟨h1,h2.keep0 hc (fun _ _ _=>Vn),h3⟩
def newA (c:Cg) (ys:List Int) (us:List (List Int)) (rc:List Int):Mac:=⟨⟨List.replicate c.co (pt0 c),List.replicate c.li enE,[],ys⟩,(List.range c.co).map (fun k:Nat=>co0 (k:Int) c.st (us.getD k [])),rc,0⟩
theorem MI.new {c:Cg} (hc:c.Ok) {ys:List Int} {us:List (List Int)} {rc:List Int} (hy:ys.length=c.li*8) (hy0:∀x∈ys,0≤x) (hr:rc.length≤4096∧∀u∈rc,0≤u∧u<18446744073709551616):MI c 0 (newA c ys us rc) (fun i=>Go.Proofs.YtcgjofbkcgedfaaGreatDoor.ln ys i):=by
 refine ⟨Inv.fresh c hc ys hy,?_,?_,by simp [newA],fun j Q hQ=>?_,hr,Nat.le_refl _⟩
 ·intro i x hx
  exact hy0 x (mem_ln hx)
 ·exact ⟨hy0,fun e he x hx=>by rw [List.eq_of_mem_replicate he] at hx;exact enE_pos x hx⟩
 ·have hQ':((List.range c.co).map (fun k:Nat=>co0 (k:Int) c.st (us.getD k [])))[j]? =some Q:=hQ
  rw [List.getElem?_map] at hQ'
  have hj:j<c.co:=by
   have:=(Vg hQ).1
   simpa [newA] using this
  rw [List.getElem?_range hj] at hQ'
  simp only [Option.map_some,Option.some.injEq] at hQ'
  subst hQ'
  refine ⟨rfl,⟨by intro x hx;simp [co0] at hx;omega,by intro e he;simp [co0] at he⟩,rfl,?_,by simp [co0],by simp [co0]⟩
  exact (fl_fresh c _ _ j).symm
theorem build_mac (w:World) (sy cb n:Nat) (RA:Option Addr) (rn rc:Nat):(Instr.build 91 #[(0,.pointer (some ⟨sy,0,none⟩)),(1,.slice (some ⟨cb,0,none⟩) n n),(2,.slice RA rn rc)]).run Tryz.prog w=.ok (.agg (mcc sy cb n RA rn rc 0)) w:=by kernel_rfl
attribute [local go_sem ↓] build_mac
def MadeMac (W w:World) (c:Cg) (M:Mac) (e:Ending) (w':World):Prop:=∃mp RA rcap Ft,e=.returned (.tuple #[.pointer (some ⟨mp,0,none⟩),.int .i64 0])∧MaS W w' c mp RA rcap Ft M∧Chg [] w w'∧∀b∈Ft,w.heap.size≤b
theorem newMaM {W w w2 w3 w4 w5:World} {c:Cg} {sy cb:Nat} {F:List Nat} {ks:List Kp} {us:List (List Int)} {rc ys:List Int} {RA:Option Addr} {rcap:Nat} (hW:Chg [] W w) (hc:c.Ok) (h3:Mem W w3 c sy F (List.replicate c.co (pt0 c)) (List.replicate c.li enE) [] ys) (hcb:w2.heap.size≤cb) (hb3:w3.heap[cb]? =some (.cells (sq pke ks []) 62 (0,0)))
 (hl:ks.length=c.co) (hk:NewK w2 w3 cb c.st ks us) (hFo:∀b∈F,b<w2.heap.size) (hFn:∀b∈F,w.heap.size≤b) (hz:w.heap.size≤w2.heap.size∧w2.heap.size≤w3.heap.size) (k5:Chg [] w3 w5) (hr:Sl w5 1 RA rc.length (rc.map (Value.int .u64))) (hra:0<rc.length→∀a,RA=some a→w4.heap.size≤a.block) (z4:w3.heap.size≤w4.heap.size) (hu:us.length=c.co):
 MaM W (w5.alloc (.cells (mcc sy cb c.co RA rc.length rcap 0) 91)) c w5.heap.size cb sy F ks RA rcap (newA c ys us rc):=by
 have k6:=(Chg.refl [] w5).alloc (.cells (mcc sy cb c.co RA rc.length rcap 0) 91)
 have k36:=k5.trans k6
 have hcbl:=Xe hb3
 have z5:=k5.size
 have zW:=hW.size
 have hkb:∀(j:Nat) (p:Kp),ks[j]? =some p→∀b∈p.foot,w2.heap.size≤b∧b<w3.heap.size:=fun j p hp=>(hk.km j p hp).2
 refine {own:=by simp [newA],cors:=k36.keep hb3 (by simp),kl:=hl,cl:=by simp [newA],sys:=Mem.keep h3 k36,co:=fun j p Q hp hQ=>?_,rcs:=Sl.keep0 hr k6 (fun _ _ _=>Vn),ne:=by omega,km:=fun j p hp=>⟨fun hm=>by have:=(hkb j p hp _ hm).2;omega,(hk.km j p hp).1⟩,kd:=hk.kd,dm:=fun hm=>by have:=hFo _ hm;omega,dc:=fun hm=>by have:=hFo _ hm;omega,dk:=fun j p hp b hb hm=>by have:=hFo _ hm;have:=(hkb j p hp b hb).1;omega,rd:=fun h0 a ha=>?_,new:=fun b hb=>?_}
 ·have hQ':((List.range c.co).map (fun k:Nat=>co0 (k:Int) c.st (us.getD k [])))[j]? =some Q:=hQ
  rw [List.getElem?_map] at hQ'
  have hj:j<c.co:=by rw [←hl];exact (Vg hp).1
  rw [List.getElem?_range hj] at hQ'
  simp only [Option.map_some,Option.some.injEq] at hQ'
  subst hQ'
  have hj2:j<us.length:=by omega
  exact (hk.keep k36 (by simp)).co j p _ hp (by rw [List.getElem?_eq_getElem hj2,List.getD_eq_getElem?_getD,List.getElem?_eq_getElem hj2];rfl)
 ·have h1:=hra h0 a ha
  have h0':0<rc.length:=h0
  have ho:a.block<w5.heap.size:=by
   rcases hr.2 with h2|⟨b,o,cs,t,f,h2,h5,_⟩
   ·omega
   ·rw [ha] at h2
    cases h2
    exact Xe h5
  simp only [List.mem_cons,List.mem_append,not_or]
  refine ⟨by omega,by omega,fun hm=>?_,fun hm=>by have:=hFo _ hm;omega⟩
  obtain ⟨j,p,hp,hb⟩:=Y6.1 hm
  have:=(hkb j p hp _ hb).2
  omega
 ·simp only [List.mem_cons] at hb
  rcases hb with rfl|rfl|hb
  ·omega
  ·omega
  ·obtain ⟨j,p,hp,hb⟩:=Y6.1 hb
   have:=(hkb j p hp _ hb).1
   omega
set_option maxHeartbeats 8000000 in
theorem mcnew {W w:World} {c:Cg} (hc:c.Ok) (hW:Chg [] W w) (hT:Tabs W) {A:Option Addr} {n nc:Nat} {ys:List Int} (hi:ImgIs c w A n ys) {PA:Option Addr} {pcap:Nat} {fs:List Rf} {us:List (List Int)} (hs:Sl w 1 PA c.co (cat re fs)) (hf:fs.length=c.co) (hu:us.length=c.co) (hp:ProgsAre w fs us)
 {RA:Option Addr} {rcap:Nat} {rc:List Int} (hr:Sl w 1 RA rc.length (rc.map (Value.int .u64))) (hr2:rc.length≤4096∧∀u∈rc,0≤u∧u<18446744073709551616):
 Calls Tryz.prog 15 #[.agg c.cells,.slice A n nc,.slice PA c.co pcap,.slice RA rc.length rcap] w (MadeMac W w c (newA c ys us rc)):=by
 have C1:=Vh ((Chg.refl [] w).alloc (.cells c.cells 23))
 have r1:(w.alloc (.cells c.cells 23)).heap[w.heap.size]? =some (.cells c.cells 23 (0,0)):=by simp
 have HW:=Vh hW
 have HC:=Vh hc
 have HI:=Vh (hi.keep C1.out)
 have HS:=Vh (hs.keep0 C1.out (fun _ _ _=>Vn))
 have HF:=Vh hf
 have HU:=Vh hu
 have HP:=Vh (hp.keep C1.out)
 have HR:=Vh (hr.keep0 C1.out (fun _ _ _=>Vn))
 have HR2:=Vh hr2
 have HT:=Vh hT
 clear hc hW hi hs hf hu hp hr hr2 hT
 go_enter Tryz.func15,Tryz.ntmps15
 try dsimp only [List.append]
 go_wp2_with fail
 generalize w.alloc (.cells c.cells 23)=w1 at *
 generalize hp1:w.heap.size=p1 at *
 have o1:=old r1
 refine (mnew_of W w1 c HC.out (HW.out.trans C1.out) A n nc ys HI.out).mono ?_
 rintro e w2 ⟨sy,F,rfl,hm,k2,hF⟩
 have r2:=k2.keep r1 (by simp)
 have o2:=old r2
 have C2:=Vh (C1.out.trans k2)
 have HM:=Vh hm
 have HFN:=Vh (show ∀b∈F,w.heap.size≤b from fun b hb=>Nat.le_trans C1.out.size (hF b hb))
 have HS2:=Vh (HS.out.keep0 k2 (fun _ _ _=>Vn))
 have HP2:=Vh (HP.out.keep k2)
 have HR3:=Vh (HR.out.keep0 k2 (fun _ _ _=>Vn))
 clear hm k2 hF r1 o1 C1 HS HP HR HI
 go_wp2_with fail
 refine (mcores (us:=us) HS2.out HF.out HU.out HP2.out HC.out.st1 HC.out.st16 HC.out.co8).mono ?_
 rintro e w3 ⟨cb,ks,rfl,hcb,hb3,hl3,hk3,k3⟩
 have r3:=k3.keep r2 (by simp)
 have o3:=old r3
 have C3:=Vh (C2.out.trans k3)
 have hs23:=k3.size
 have hs12:=C2.out.size
 have H3:=Vh (show Mem W w3 c sy F (List.replicate c.co (pt0 c)) (List.replicate c.li enE) [] ys from Mem.keep HM.out k3)
 have HFO:=Vh (show ∀b∈F,b<w2.heap.size from Mem.old HM.out)
 have HR4:=Vh (HR3.out.keep0 k3 (fun _ _ _=>Vn))
 have HCB:=Vh hcb
 have HB3:=Vh hb3
 have HL3:=Vh hl3
 have HK3:=Vh hk3
 have HZ:=Vh (show w.heap.size≤w2.heap.size∧w2.heap.size≤w3.heap.size from ⟨hs12,hs23⟩)
 clear hcb hb3 hl3 hk3 k3 HM HR3 r2 o2 C2 HS2 HP2 hs23 hs12
 go_wp2_with fail
 refine (cnew (us:=rc) 0 c.st HR4.out rfl HR2.out.1 HR2.out.2 (by omega) HC.out.st1 HC.out.st16).mono ?_
 rintro e w4 ⟨kb,pb,qb,rfl,_,_,_,k4,_⟩
 have r4:=k4.keep r3 (by simp)
 have o4:=old r4
 have C4:=Vh (C3.out.trans k4)
 have HR5:=Vh (HR4.out.keep0 k4 (fun _ _ _=>Vn))
 have K4:=Vh k4
 clear k4 r3 o3 C3 HR4
 go_wp2_with fail
 refine (uclone RA rc.length rcap rc w4 HR5.out rfl HR2.out.1).mono ?_
 rintro e w5 ⟨RA',rcap',rfl,hr5,hra,k5⟩
 have r5:=k5.keep r4 (by simp)
 have o5:=old r5
 have C5:=Vh (C4.out.trans k5)
 have HR6:=Vh hr5
 have HRA:=Vh hra
 have K5:=Vh (K4.out.trans k5)
 have Z4:=Vh K4.out.size
 have Z5:=Vh k5.size
 clear k5 r4 o4 C4 HR5 hr5 hra K4
 go_wp2_with fail
 go_ret2
 refine ⟨w5.heap.size,RA',rcap',_,rfl,⟨cb,sy,F,ks,rfl,newMaM HW.out HC.out H3.out HCB.out HB3.out HL3.out HK3.out HFO.out HFN.out HZ.out K5.out HR6.out HRA.out Z4.out HU.out⟩,C5.out.alloc _,fun b hb=>?_⟩
 have z1:=C5.out.size
 have z2:=HZ.out
 have z3:=HCB.out
 simp only [List.mem_cons,List.mem_append] at hb
 rcases hb with rfl|rfl|hb|hb
 ·exact z1
 ·omega
 ·obtain ⟨j,p,hp,hb⟩:=Y6.1 hb
  have:=((HK3.out.km j p hp).2 b hb).1
  omega
 ·exact HFN.out b hb
end
section
attribute [local go_sem ↓] Qgq cg_li cg_vo cg_qu ZF Zu XG
attribute [local go_sem] Qgm Qbp Qgv Qds ZD QS Z2 ZE ZG ZN
attribute [local simp] QS
def restI (st:Int):Bool:=st==1||st==2||st==3
def doneC (Q:Co):Bool:=!Q.ru&&Q.es.length==0&&Q.wt==0
def stillP (x:Pt):Bool:=x.up.length==0&&x.an.length==0&&x.dn.length==0
def idleP (x:Pt):Bool:=(live x.s.1).all (fun s=>restI s.st)
def restAt (M:Mac) (j:Nat):Bool:=match M.cs[j]? with
 |some Q=>doneC Q&&stillP (atP M.S.ps j)&&idleP (atP M.S.ps j)
 |none=>true
def Qbj (c:Cg) (M:Mac):Bool:=(List.range c.co).all (restAt M)&&(List.range c.li).all (fun k:Nat=>(entA c M.S (k:Int)).bu==0)
theorem matRest (st:Int) (w:World):Calls Tryz.prog 77 #[.int .i64 st] w fun e w'=>e=.returned (.bool (restI st))∧w=w':=by
 by_cases h1:st=1
 ·subst h1
  go_enter Tryz.func77,Tryz.ntmps77
  go_wp2
  go_ret
  exact ⟨rfl,rfl⟩
 by_cases h2:st=2
 ·subst h2
  go_enter Tryz.func77,Tryz.ntmps77
  go_wp2
  go_ret
  exact ⟨rfl,rfl⟩
 by_cases h3:st=3
 ·subst h3
  go_enter Tryz.func77,Tryz.ntmps77
  go_wp2
  go_ret
  exact ⟨rfl,rfl⟩
 have e1:restI st=false:=by simp [restI,h1,h2,h3]
 rw [e1]
 go_enter Tryz.func77,Tryz.ntmps77
 go_wp2
 go_ret
 exact ⟨rfl,rfl⟩
theorem mdone {W w:World} {c:Cg} {mp cb sy n:Nat} {F:List Nat} {ks:List Kp} {RA:Option Addr} {rcap:Nat} {M:Mac} {cur:Nat→List Int} (h:MaM W w c mp cb sy F ks RA rcap M) {j:Nat} {p:Kp} {Q:Co} (hp:ks[j]? =some p) (hQ:M.cs[j]? =some Q):
 Calls Tryz.prog 43 #[.pointer (some ⟨p.kb,0,none⟩)] w fun e w'=>e=.returned (.bool (doneC Q))∧Chg [] w w':=by
 have HCS:=Vh (h.cs hp hQ)
 clear h hp hQ
 unfold doneC
 have hrn:=Qao HCS.out.co.own
 cases hru:Q.ru
 ·rw [hru] at hrn
  have HRU:=Vh hrn
  clear hrn
  by_cases hl:Q.es.length=0
  ·have hl2:(Q.es.length==0)=true:=by simp [hl]
   rw [hl2]
   by_cases hw:Q.wt=0
   ·have hw2:(Q.wt==0)=true:=by simp [hw]
    rw [hw2]
    go_enter Tryz.func43,Tryz.ntmps43
    go_wp2_with (first
     |(go_at_call 72;refine HRU.out.mono ?_;rintro e w' ⟨rfl,rfl⟩)
     |(go_at_call 73;refine (ebuffer HCS.out).mono ?_;rintro e w2 ⟨b,rfl,_,c2,_⟩;have HCS2:=Vh (HCS.out.keep0 c2);have C2:=Vh c2;clear c2)
     |(go_at_call 74;refine (cwaits HCS2.out.co.ok.h8 HCS2.out.co.own).mono ?_;rintro e w' ⟨rfl,rfl⟩))
    go_ret
    exact ⟨rfl,C2.out⟩
   ·have hw2:(Q.wt==0)=false:=by simp [hw]
    have hw3:((Q.wt:Int)==0)=false:=beq_eq_false_iff_ne.2 (by omega)
    rw [hw2]
    go_enter Tryz.func43,Tryz.ntmps43
    go_wp2_with (first
     |(go_at_call 72;refine HRU.out.mono ?_;rintro e w' ⟨rfl,rfl⟩)
     |(go_at_call 73;refine (ebuffer HCS.out).mono ?_;rintro e w2 ⟨b,rfl,_,c2,_⟩;have HCS2:=Vh (HCS.out.keep0 c2);have C2:=Vh c2;clear c2)
     |(go_at_call 74;refine (cwaits HCS2.out.co.ok.h8 HCS2.out.co.own).mono ?_;rintro e w' ⟨rfl,rfl⟩))
    go_ret
    exact ⟨rfl,C2.out⟩
  ·have hl2:(Q.es.length==0)=false:=by simp [hl]
   rw [hl2]
   have hl3:¬(Q.es.length:Int)=0:=by omega
   have hl4:((Q.es.length:Int)==0)=false:=beq_eq_false_iff_ne.2 (by omega)
   go_enter Tryz.func43,Tryz.ntmps43
   go_wp2_with (first
    |(go_at_call 72;refine HRU.out.mono ?_;rintro e w' ⟨rfl,rfl⟩)
    |(go_at_call 73;refine (ebuffer HCS.out).mono ?_;rintro e w2 ⟨b,rfl,_,c2,_⟩;have HCS2:=Vh (HCS.out.keep0 c2);have C2:=Vh c2;clear c2))
   go_ret
   exact ⟨rfl,C2.out⟩
 ·rw [hru] at hrn
  have HRU:=Vh hrn
  clear hrn
  go_enter Tryz.func43,Tryz.ntmps43
  go_wp2_with (first
   |(go_at_call 72;refine HRU.out.mono ?_;rintro e w' ⟨rfl,rfl⟩))
  go_ret
  exact ⟨rfl,Chg.refl _ _⟩
theorem mstill {W w:World} {c:Cg} {mp cb sy n:Nat} {F:List Nat} {ks:List Kp} {RA:Option Addr} {rcap:Nat} {M:Mac} {cur:Nat→List Int} (h:MaM W w c mp cb sy F ks RA rcap M) (hI:MI c n M cur) {j:Nat} (hj:j<c.co):
 Calls Tryz.prog 44 #[.pointer (some ⟨mp,0,none⟩),.int .i64 (j:Int)] w fun e w'=>e=.returned (.bool (stillP (atP M.S.ps j)))∧Chg [] w w':=by
 have hat:M.S.ps[j]? =some (atP M.S.ps j):=atP_mem (by rw [hI.inv.co];exact hj)
 have hq:=hI.roomy j hj
 have hm:=h.own
 have om:=old hm
 have HQ:=Vh (mqueues_ok h.sys j _ hat (by omega) (by omega) (by omega))
 clear h hI hat hq
 generalize atP M.S.ps j=x at *
 unfold stillP
 by_cases h1:x.up.length=0
 ·have h1':(x.up.length==0)=true:=by simp [h1]
  rw [h1']
  by_cases h2:x.an.length=0
  ·have h2':(x.an.length==0)=true:=by simp [h2]
   rw [h2']
   by_cases h3:x.dn.length=0
   ·have h3':(x.dn.length==0)=true:=by simp [h3]
    rw [h3']
    go_enter Tryz.func44,Tryz.ntmps44
    go_wp2_with (go_at_call 75;refine HQ.out.mono ?_;rintro e w2 ⟨A1,n1,A2,n2,A3,n3,rfl,_,_,_,c2⟩;have C2:=Vh c2;clear c2)
    go_ret
    exact ⟨rfl,C2.out⟩
   ·have h3':(x.dn.length==0)=false:=by simp [h3]
    rw [h3']
    have h3'':((x.dn.length:Int)==0)=false:=beq_eq_false_iff_ne.2 (by omega)
    go_enter Tryz.func44,Tryz.ntmps44
    go_wp2_with (go_at_call 75;refine HQ.out.mono ?_;rintro e w2 ⟨A1,n1,A2,n2,A3,n3,rfl,_,_,_,c2⟩;have C2:=Vh c2;clear c2)
    go_ret
    exact ⟨rfl,C2.out⟩
  ·have h2':(x.an.length==0)=false:=by simp [h2]
   rw [h2']
   have h2'':((x.an.length:Int)==0)=false:=beq_eq_false_iff_ne.2 (by omega)
   go_enter Tryz.func44,Tryz.ntmps44
   go_wp2_with (go_at_call 75;refine HQ.out.mono ?_;rintro e w2 ⟨A1,n1,A2,n2,A3,n3,rfl,_,_,_,c2⟩;have C2:=Vh c2;clear c2)
   go_ret
   exact ⟨rfl,C2.out⟩
 ·have h1':(x.up.length==0)=false:=by simp [h1]
  rw [h1']
  have h1'':((x.up.length:Int)==0)=false:=beq_eq_false_iff_ne.2 (by omega)
  go_enter Tryz.func44,Tryz.ntmps44
  go_wp2_with (go_at_call 75;refine HQ.out.mono ?_;rintro e w2 ⟨A1,n1,A2,n2,A3,n3,rfl,_,_,_,c2⟩;have C2:=Vh c2;clear c2)
  go_ret
  exact ⟨rfl,C2.out⟩
theorem all_take_next {α:Type} {p:α→Bool} {xs:List α} {k:Nat} {x:α} (h:(xs.take k).all p=true) (hx:xs[k]? =some x):(xs.take (k+1)).all p=p x:=by
 rw [List.take_add_one,hx,List.all_append,h]
 simp
theorem all_of_not {α:Type} {p:α→Bool} {xs:List α} {k:Nat} {x:α} (hx:xs[k]? =some x) (h:p x=false):xs.all p=false:=by
 rw [List.all_eq_false]
 exact ⟨x,List.mem_of_getElem? hx,by simp [h]⟩
theorem midle {W w:World} {c:Cg} {mp cb sy n:Nat} {F:List Nat} {ks:List Kp} {RA:Option Addr} {rcap:Nat} {M:Mac} {cur:Nat→List Int} (h:MaM W w c mp cb sy F ks RA rcap M) (hI:MI c n M cur) {j:Nat} (hj:j<c.co):
 Calls Tryz.prog 45 #[.pointer (some ⟨mp,0,none⟩),.int .i64 (j:Int)] w fun e w'=>e=.returned (.bool (idleP (atP M.S.ps j)))∧Chg [] w w':=by
 have hat:M.S.ps[j]? =some (atP M.S.ps j):=atP_mem (by rw [hI.inv.co];exact hj)
 have hm:=h.own
 have om:=old hm
 have HQ:=Vh (mslots_ok h.sys j _ hat)
 have HL:=Vh (show (live (atP M.S.ps j).s.1).length≤64 from Nat.le_trans (live_le _) (hI.inv.pt j hj).aj.good.len64)
 clear h hI hat
 unfold idleP
 generalize live (atP M.S.ps j).s.1=xs at *
 have gl:(xs.length:Int)≤64:=by have:=HL.out;omega
 go_enter Tryz.func45,Tryz.ntmps45
 go_wp2_with fail
 refine HQ.out.mono ?_
 rintro e w2 ⟨A,cp,rfl,hs,c2⟩
 have HS:=Vh hs
 have C2:=Vh c2
 clear hs c2 hm om HQ
 go_wp2_with fail
 go_loopw [6,14] (fun _ i wr=>∃k:Nat,k≤xs.length∧i=.int .i64 k∧(xs.take k).all (fun s=>restI s.st)=true∧Chg [] w2 wr) (fun _ i _=>xs.length-(intOf i).toNat)
 case atStart=>exact ⟨0,by omega,rfl,by simp,Chg.refl _ _⟩
 case round=>
  obtain ⟨k,hk,rfl,ha,hc⟩:=hrel
  have HA:=Vh ha
  have HC:=Vh hc
  clear ha hc
  by_cases hlt:k<xs.length
  ·obtain ⟨x,hx⟩:∃x,xs[k]? =some x:=⟨xs[k]'hlt,List.getElem?_eq_getElem _⟩
   have g3:(k:Int)<(xs.length:Int):=by omega
   have g0:(0:Int)≤(k:Int):=by omega
   obtain ⟨b0,o0,hA⟩:=HS.out.addr (by omega)
   subst hA
   obtain ⟨cA,tA,fA,hA,_,hpart⟩:=HS.out.elem (by omega) hlt (Ju Slt.len hx)
   obtain ⟨hin,hpt⟩:=hpart 0 11 (by omega)
   have hAr:=HC.out.keep hA (by simp)
   have oA:=old hAr
   rw [Nat.add_zero] at hin hpt
   rw [show ((Slt.enc x).drop 0 |>.take 11).toArray=slc x from by rw [List.drop_zero,List.take_of_length_le (by rw [Slt.len];omega)];rfl] at hpt
   have HLT:=Vh hlt
   have HX:=Vh hx
   cases hr:restI x.st
   ·have HB:=Vh (show xs.all (fun s=>restI s.st)=false from all_of_not hx hr)
    clear hx hlt hA hpart hk
    go_wp2_with (go_at_call 77;refine (matRest _ _).mono ?_;rw [hr];rintro e w' ⟨rfl,rfl⟩)
    go_ret
    exact ⟨by rw [HB.out];rfl,C2.out.trans (HC.out.alloc _)⟩
   ·have HN:=Vh ((all_take_next HA.out hx).trans hr)
    clear hx hlt hA hpart hk
    go_wp2_with (go_at_call 77;refine (matRest _ _).mono ?_;rw [hr];rintro e w' ⟨rfl,rfl⟩)
    go_roundw
    case rel=>exact ⟨k+1,HLT.out,by go_num,HN.out,HC.out.alloc _⟩
    case measure=>have:=HLT.out;simp [intOf];omega
  ·have hkk:k=xs.length:=by omega
   have HE:=Vh (show xs.all (fun s=>restI s.st)=true by have:=HA.out;rw [hkk,List.take_length] at this;exact this)
   subst hkk
   clear hlt hk
   go_wp2_with fail
   go_ret
   exact ⟨by rw [HE.out];rfl,C2.out.trans HC.out⟩
end
section
theorem ec_field5 (e:En) (w:World):(Instr.field 120 (.agg (ec e)) 5).run Tryz.prog w=.ok (.int .i64 e.bu) w:=by
 obtain ⟨he,di,l,ow,sh,bu,by_,wa,hl⟩:=e
 match l,hl with
 |[a0,a1,a2,a3,a4,a5,a6,a7],_=>
  show (Instr.field 120 (.agg #[.bool he,.bool di,.int .u64 a0,.int .u64 a1,.int .u64 a2,.int .u64 a3,.int .u64 a4,.int .u64 a5,.int .u64 a6,.int .u64 a7,.int .i64 ow,.int .u8 (mi sh),.int .i64 bu,.int .i64 by_,.int .u8 (mi wa)]) 5).run Tryz.prog w=.ok (.int .i64 bu) w
  kernel_rfl
attribute [local go_sem ↓] ec_field5 cgfield_li
theorem Qeh {p:Nat→Bool} {k:Nat} (h:∀j,j<k→p j=true) (hp:p k=true):∀j,j<k+1→p j=true:=fun j hj=>by
 by_cases e:j=k
 ·rw [e];exact hp
 ·exact h j (by omega)
theorem range_all {p:Nat→Bool} {n:Nat} (h:∀j,j<n→p j=true):(List.range n).all p=true:=by
 rw [List.all_eq_true]
 intro x hx
 exact h x (List.mem_range.1 hx)
theorem Qe5 {p:Nat→Bool} {n k:Nat} (hk:k<n) (h:p k=false):(List.range n).all p=false:=by
 rw [List.all_eq_false]
 exact ⟨k,List.mem_range.2 hk,by simp [h]⟩
set_option maxHeartbeats 8000000 in
theorem mquiet {W w:World} {c:Cg} {mp cb sy n:Nat} {F:List Nat} {ks:List Kp} {RA:Option Addr} {rcap:Nat} {M:Mac} {cur:Nat→List Int} (h:MaM W w c mp cb sy F ks RA rcap M) (hI:MI c n M cur):
 Calls Tryz.prog 23 #[.pointer (some ⟨mp,0,none⟩)] w fun e w'=>e=.returned (.bool (Qbj c M))∧Chg [] w w':=by
 have HI:=Vh hI
 have H:=Vh h
 have hm:=h.own
 have om:=old hm
 have gco:(c.co:Int)≤8:=by have:=hI.inv.ok.co8;omega
 have gli:(c.li:Int)≤64:=by have:=hI.inv.ok.li64;omega
 clear hI h
 go_enter Tryz.func23,Tryz.ntmps23
 go_wp2_with fail
 go_loopw [3,4,13] (fun _ _ i wr=>∃k:Nat,k≤c.co∧i=.int .i64 k∧(∀j,j<k→restAt M j=true)∧Chg [] w wr) (fun _ _ i _=>c.co-(intOf i).toNat)
 case atStart=>exact ⟨0,by omega,rfl,fun j hj=>by omega,Chg.refl _ _⟩
 case round=>
  obtain ⟨k,hk,rfl,ha,hc⟩:=hrel
  have HA:=Vh ha
  have HC:=Vh hc
  have HK:=Vh (H.out.keep0 hc)
  have hmr:=HC.out.keep hm (by simp)
  have omr:=old hmr
  clear ha hc hm om
  by_cases hlt:k<c.co
  ·obtain ⟨p,Q,hp,hQ⟩:=HK.out.kAt hlt
   have g3:(k:Int)<(c.co:Int):=by omega
   have g0:(0:Int)≤(k:Int):=by omega
   have hcb:=HK.out.cors
   have ocb:=old hcb
   have hpk:(sq pke ks [])[k]? =some (.pointer (some ⟨p.kb,0,none⟩)):=by
    unfold sq
    rw [cat_pke,List.append_nil,List.getElem?_toArray,List.getElem?_map,hp]
    rfl
   have HLT:=Vh hlt
   have HP:=Vh hp
   have HQ:=Vh hQ
   have hra:restAt M k=(doneC Q&&stillP (atP M.S.ps k)&&idleP (atP M.S.ps k)):=by unfold restAt;rw [hQ]
   have hd1:=mdone (n:=n) (cur:=cur) HK.out hp hQ
   cases e1:doneC Q
   ·rw [e1] at hd1
    have HD1:=Vh hd1
    have HB:=Vh (show Qbj c M=false by unfold Qbj;rw [Qe5 hlt (by rw [hra,e1];rfl)];rfl)
    clear hlt hk hp hQ hd1 hra
    go_wp2_with (go_at_call 43;refine HD1.out.mono ?_;rintro e w2 ⟨rfl,c2⟩;have C2:=Vh c2;clear c2)
    go_ret
    exact ⟨by rw [HB.out];rfl,HC.out.trans C2.out⟩
   rw [e1] at hd1
   have HD1:=Vh hd1
   have hst:=fun w2 (k2:Chg [] wr w2)=>mstill (HK.out.keep0 k2) HI.out hlt
   cases e2:stillP (atP M.S.ps k)
   ·rw [e2] at hst
    have HST:=Vh hst
    have HB:=Vh (show Qbj c M=false by unfold Qbj;rw [Qe5 hlt (by rw [hra,e1,e2];rfl)];rfl)
    clear hlt hk hp hQ hd1 hst hra
    go_wp2_with (first
     |(go_at_call 43;refine HD1.out.mono ?_;rintro e w2 ⟨rfl,c2⟩;have C2:=Vh c2;clear c2)
     |(go_at_call 44;refine (HST.out _ C2.out).mono ?_;rintro e w3 ⟨rfl,c3⟩;have C3:=Vh (C2.out.trans c3);clear c3))
    go_ret
    exact ⟨by rw [HB.out];rfl,HC.out.trans C3.out⟩
   rw [e2] at hst
   have HST:=Vh hst
   have hid':=fun w2 (k2:Chg [] wr w2)=>midle (HK.out.keep0 k2) HI.out hlt
   cases e3:idleP (atP M.S.ps k)
   ·rw [e3] at hid'
    have HID:=Vh hid'
    have HB:=Vh (show Qbj c M=false by unfold Qbj;rw [Qe5 hlt (by rw [hra,e1,e2,e3];rfl)];rfl)
    clear hlt hk hp hQ hd1 hst hid' hra
    go_wp2_with (first
     |(go_at_call 43;refine HD1.out.mono ?_;rintro e w2 ⟨rfl,c2⟩;have C2:=Vh c2;clear c2)
     |(go_at_call 44;refine (HST.out _ C2.out).mono ?_;rintro e w3 ⟨rfl,c3⟩;have C3:=Vh (C2.out.trans c3);clear c3)
     |(go_at_call 45;refine (HID.out _ C3.out).mono ?_;rintro e w4 ⟨rfl,c4⟩;have C4:=Vh (C3.out.trans c4);clear c4))
    go_ret
    exact ⟨by rw [HB.out];rfl,HC.out.trans C4.out⟩
   rw [e3] at hid'
   have HID:=Vh hid'
   have HN:=Vh (Qeh HA.out (show restAt M k=true by rw [hra,e1,e2,e3];rfl))
   clear hlt hk hp hQ hd1 hst hid' hra
   go_wp2_with (first
    |(go_at_call 43;refine HD1.out.mono ?_;rintro e w2 ⟨rfl,c2⟩;have C2:=Vh c2;clear c2)
    |(go_at_call 44;refine (HST.out _ C2.out).mono ?_;rintro e w3 ⟨rfl,c3⟩;have C3:=Vh (C2.out.trans c3);clear c3)
    |(go_at_call 45;refine (HID.out _ C3.out).mono ?_;rintro e w4 ⟨rfl,c4⟩;have C4:=Vh (C3.out.trans c4);clear c4))
   go_roundw
   case rel=>exact ⟨k+1,HLT.out,by go_num,HN.out,HC.out.trans C4.out⟩
   case measure=>have:=HLT.out;simp [intOf];omega
  ·have hkk:k=c.co:=by omega
   subst hkk
   clear hlt hk
   have HALL:=Vh (range_all HA.out)
   go_wp2_with fail
   refine (J2 HK.out.sys).mono ?_
   rintro e w5 ⟨rfl,c5⟩
   have HM5:=Vh (HK.out.keep0 c5)
   have C5:=Vh (HC.out.trans c5)
   have hm5:=HM5.out.own
   have om5:=old hm5
   clear c5 hmr omr HK HA
   go_wp2_with fail
   go_loopw [5,40] (fun _ i wq=>∃k:Nat,k≤c.li∧i=.int .i64 k∧(∀j:Nat,j<k→((entA c M.S (j:Int)).bu==0)=true)∧Chg [] w5 wq) (fun _ i _=>c.li-(intOf i).toNat)
   case atStart=>exact ⟨0,by omega,rfl,fun j hj=>by omega,Chg.refl _ _⟩
   case round=>
    obtain ⟨k,hk,rfl,ha,hc⟩:=hrel
    have HA:=Vh ha
    have HCQ:=Vh hc
    have HK:=Vh (HM5.out.keep0 hc)
    have hmr:=HCQ.out.keep hm5 (by simp)
    have omr:=old hmr
    clear ha hc hm5 om5
    by_cases hlt:k<c.li
    ·have g3:(k:Int)<(c.li:Int):=by omega
     have HLT:=Vh hlt
     have HE:=Vh (mentry HK.out.sys (k:Int))
     by_cases hbu:(entA c M.S (k:Int)).bu=0
     ·have HN:=Vh (Qeh (p:=fun j:Nat=>(entA c M.S (j:Int)).bu==0) HA.out (by simp [hbu]))
      clear hlt hk
      go_wp2_with (go_at_call 47;refine HE.out.mono ?_;rintro e w6 ⟨rfl,c6⟩;have C6:=Vh c6;clear c6)
      go_roundw
      case rel=>exact ⟨k+1,HLT.out,by go_num,HN.out,HCQ.out.trans C6.out⟩
      case measure=>have:=HLT.out;simp [intOf];omega
     ·have HB:=Vh (show Qbj c M=false by unfold Qbj;rw [Qe5 (p:=fun j:Nat=>(entA c M.S (j:Int)).bu==0) hlt (by simp [hbu]),Bool.and_false])
      have hbu2:((entA c M.S (k:Int)).bu==0)=false:=beq_eq_false_iff_ne.2 hbu
      clear hlt hk
      go_wp2_with (go_at_call 47;refine HE.out.mono ?_;rintro e w6 ⟨rfl,c6⟩;have C6:=Vh c6;clear c6)
      go_ret
      exact ⟨by rw [HB.out];rfl,C5.out.trans (HCQ.out.trans C6.out)⟩
    ·have hkk:k=c.li:=by omega
     subst hkk
     clear hlt hk
     have HB:=Vh (show Qbj c M=true by unfold Qbj;rw [HALL.out,range_all HA.out];rfl)
     go_wp2_with fail
     go_ret
     exact ⟨by rw [HB.out];rfl,C5.out.trans HCQ.out⟩
end
section
theorem mloadC_len (c:Cg) (S:Mst) (Q:Co) (a li wo:Int):(Qf7 c S Q a li wo).ev.length≤2:=by
 unfold Qf7
 split
 ·simp
 ·split<;>simp
theorem mputC_len (S:Mst) (Q:Co) (kd:Int) (e:Se):(putC S Q kd e).ev.length≤2:=by
 unfold putC
 split<;>simp
theorem mchangeC_len (c:Cg) (S:Mst) (Q:Co) (i:Ins) (li wo:Int):(Qaq c S Q i li wo).ev.length≤2:=by
 unfold Qaq
 split
 ·split
  ·split<;>simp
  ·simp
 ·simp
theorem maccessC_len (c:Cg) (S:Mst) (Q:Co) (i:Ins):(Xk c S Q i).ev.length≤2:=by
 unfold Xk
 split
 ·split
  ·exact mloadC_len ..
  ·split
   ·exact mputC_len ..
   ·split
    ·exact mchangeC_len ..
    ·exact mputC_len ..
 ·simp
theorem minsC_len (c:Cg) (S:Mst) (Q:Co) (i:Ins):(insC c S Q i).ev.length≤2:=by
 unfold insC
 split
 ·simp
 ·split
  ·simp
  ·split
   ·simp
   ·split
    ·simp
    ·split
     ·simp
     ·split
      ·simp
      ·split
       ·split<;>simp
       ·exact maccessC_len ..
theorem mexecC_len (c:Cg) (S:Mst) (Q:Co):(Qcg c S Q).ev.length≤2:=by
 unfold Qcg
 split
 ·split
  ·simp
  ·split
   ·exact minsC_len ..
   ·simp
 ·simp
theorem mdrainC_len (c:Cg) (S:Mst) (Q:Co):(Qae c S Q).ev.length≤2:=by
 unfold Qae
 split
 ·simp
 ·split
  ·split<;>simp
  ·split
   ·split<;>simp
   ·split
    ·simp
    ·split<;>simp
theorem doA_len (c:Cg) (M:Mac) (kd co li:Int):(doA c M kd co li).2.length≤2:=by
 unfold doA
 split
 ·unfold execA
  split
  ·simp
  ·exact mexecC_len ..
 split
 ·unfold Qgt
  split
  ·simp
  ·exact mdrainC_len ..
 split
 ·simp
 split
 ·simp
 split
 ·unfold hearA
  split
  ·split
   ·simp
   ·unfold Qdc
    split<;>simp
  ·simp
 split
 ·unfold pushA
  split<;>simp
 split
 ·simp
 split
 ·unfold dropA
  split<;>simp
 split
 ·simp
 split
 ·simp [failA]
 ·simp
def actStep (c:Cg) (r:Mac×List Ev) (a:Ac):Mac×List Ev:=((doA c r.1 a.kd a.co a.li).1,r.2++(doA c r.1 a.kd a.co a.li).2)
def Qbr (c:Cg) (M:Mac) (l:List Ac):Mac×List Ev:=l.foldl (actStep c) (M,[])
theorem Qd1 (c:Cg) (M:Mac) {l:List Ac} {k:Nat} {a:Ac} (h:l[k]? =some a):Qbr c M (l.take (k+1))=actStep c (Qbr c M (l.take k)) a:=by
 unfold Qbr
 rw [List.take_add_one,h,List.foldl_append]
 rfl
theorem playA_len (c:Cg) (M:Mac) (l:List Ac) (k:Nat):(Qbr c M (l.take k)).2.length≤2*k:=by
 induction k with
 |zero=>simp [Qbr]
 |succ k ih=>
  cases h:l[k]? with
  |none=>
   rw [List.take_add_one,h,Option.toList_none,List.append_nil]
   omega
  |some a=>
   rw [Qd1 c M h]
   have:=doA_len c (Qbr c M (l.take k)).1 a.kd a.co a.li
   simp only [actStep,List.length_append]
   omega
theorem MI.play {c:Cg} {n:Nat} {M:Mac} {cur:Nat→List Int} (h:MI c n M cur) (l:List Ac) (k:Nat):∃cur',MI c (n+3*k) (Qbr c M (l.take k)).1 cur':=by
 induction k with
 |zero=>exact ⟨cur,h⟩
 |succ k ih=>
  obtain ⟨cur1,h1⟩:=ih
  cases hx:l[k]? with
  |none=>
   rw [List.take_add_one,hx,Option.toList_none,List.append_nil]
   exact ⟨cur1,h1.mono (by omega)⟩
  |some a=>
   rw [Qd1 c M hx]
   obtain ⟨cur2,h2⟩:=h1.step a.kd a.co a.li
   exact ⟨cur2,h2.mono (by omega)⟩
theorem eltAc:Elt Tryz.prog 29 44 3 24 (.agg (acc ⟨0,0,0⟩)) Ac.enc where
 slice:=Tryz.underlying29
 info:=by kernel_rfl
 zero:=rfl
 zone:=by intro v hv;simp [Value.cells,acc,Ac.enc] at hv;rcases hv with rfl|rfl|rfl<;>rfl
 pos:=by omega
 len:=Ac.len
 one:=Ac.one
theorem slR_act (A:Option Addr) (n cap:Nat) (hc:n≤cap) (w:World):slR Tryz.prog 29 (.slice A n cap) none (some (.int .i64 n)) none w=.ok (.slice A n cap) w:=by
 obtain ⟨i0,hi0,hz0,hz1,hz2⟩:=info_parts eltAc.info
 have h1:(0:Int)≤(n:Int):=by omega
 have h2:(n:Int)≤(cap:Int):=by omega
 cases A with
 |none=>
  simp [slR,Instr.slice,Instr.sliceBounds,Instr.sliceBound,asIntOf,run_underlying eltAc.slice,sizeOf,typeInfo,hi0,h1]
  intro h;omega
 |some a=>
  have h3:a.add 0=a:=by simp [Addr.add]
  simp [slR,Instr.slice,Instr.sliceBounds,Instr.sliceBound,asIntOf,run_underlying eltAc.slice,sizeOf,typeInfo,hi0,h1,hc,h3]
attribute [local go_sem ↓] Zi
attribute [local go_sem] ZI Y2 ZU JX
attribute [local simp] ZU
theorem Vec.keepN {α:Type} {enc:α→List Value} {k:Nat} {e:TypeId} {w w':World} {q be:Nat} {A:Option Addr} {cap:Nat} {xs:List α} {l:List Nat} (h:Vec k e enc w q be A cap xs) (hc:Chg l w w') (hb:be≠q→be∉l):Vec k e enc w' q be A cap xs:=
 h.imp id fun ⟨h1,h2,h3,r,h4,h5⟩=>⟨h1,h2,h3,r,hc.keep h4 (hb h1),h5⟩
theorem MaS.keep0 {W w w':World} {c:Cg} {mp:Nat} {RA:Option Addr} {rcap:Nat} {Ft:List Nat} {M:Mac} (h:MaS W w c mp RA rcap Ft M) (hc:Chg [] w w'):MaS W w' c mp RA rcap Ft M:=by
 obtain ⟨cb,sy,F,ks,e,hm⟩:=h
 exact ⟨cb,sy,F,ks,e,hm.keep0 hc⟩
theorem MaS.keepL {W w w':World} {c:Cg} {mp:Nat} {RA:Option Addr} {rcap:Nat} {Ft:List Nat} {M:Mac} (h:MaS W w c mp RA rcap Ft M) {l:List Nat} (hc:Chg l w w') (hl:∀b∈l,b∉Ft) (hw:∀b∈l,W.heap.size≤b) (hr:0<M.rc.length→∀a:Addr,RA=some a→a.block∉l):MaS W w' c mp RA rcap Ft M:=by
 obtain ⟨cb,sy,F,ks,rfl,hm⟩:=h
 exact ⟨cb,sy,F,ks,rfl,hm.keepL hc hl hw hr⟩
theorem MaS.old {W w:World} {c:Cg} {mp:Nat} {RA:Option Addr} {rcap:Nat} {Ft:List Nat} {M:Mac} (h:MaS W w c mp RA rcap Ft M):∀b∈Ft,b<w.heap.size:=by
 obtain ⟨cb,sy,F,ks,rfl,hm⟩:=h
 exact hm.oldAll
theorem MaS.mpOld {W w:World} {c:Cg} {mp:Nat} {RA:Option Addr} {rcap:Nat} {Ft:List Nat} {M:Mac} (h:MaS W w c mp RA rcap Ft M):Old w mp:=by
 obtain ⟨cb,sy,F,ks,rfl,hm⟩:=h
 exact Go.Proofs.YtcgjofbkcgedfaaGreatDoor.old hm.own
theorem MaS.chg {W w:World} {c:Cg} {mp:Nat} {RA:Option Addr} {rcap:Nat} {Ft:List Nat} {M:Mac} (h:MaS W w c mp RA rcap Ft M):Chg [] W w:=by
 obtain ⟨cb,sy,F,ks,rfl,hm⟩:=h
 exact hm.allChg
theorem MaS.recOld {W w:World} {c:Cg} {mp:Nat} {RA:Option Addr} {rcap:Nat} {Ft:List Nat} {M:Mac} (h:MaS W w c mp RA rcap Ft M):0<M.rc.length→∀a:Addr,RA=some a→a.block<w.heap.size:=by
 obtain ⟨cb,sy,F,ks,rfl,hm⟩:=h
 intro h0 a ha
 rcases hm.rcs.2 with h2|⟨b,o,cs,t,f,h2,h5,_⟩
 ·omega
 ·rw [ha] at h2
  cases h2
  exact Xe h5
theorem mdoS {W w:World} {c:Cg} {mp n:Nat} {RA:Option Addr} {rcap:Nat} {Ft:List Nat} {M:Mac} {cur:Nat→List Int} (h:MaS W w c mp RA rcap Ft M) (hI:MI c n M cur) (hn:n+1≤1000000000) (hT:Tabs W) (a:Ac):Calls Tryz.prog 18 #[.pointer (some ⟨mp,0,none⟩),.agg (acc a)] w (DoTo W w c mp RA rcap Ft (doA c M a.kd a.co a.li)):=by
 obtain ⟨cb,sy,F,ks,rfl,hm⟩:=h
 exact mdo hm hI hn hT a
theorem doA_rc (c:Cg) (M:Mac) (kd co li:Int):(doA c M kd co li).1.rc=M.rc:=by
 unfold doA
 split
 ·unfold execA
  split<;>rfl
 split
 ·unfold Qgt
  split<;>rfl
 split
 ·rfl
 split
 ·rfl
 split
 ·unfold hearA
  split
  ·split<;>rfl
  ·rfl
 split
 ·rfl
 split
 ·rfl
 split
 ·rfl
 split
 ·rfl
 split<;>rfl
theorem playA_rc (c:Cg) (M:Mac) (l:List Ac) (k:Nat):(Qbr c M (l.take k)).1.rc=M.rc:=by
 induction k with
 |zero=>rfl
 |succ k ih=>
  cases hx:l[k]? with
  |none=>
   rw [List.take_add_one,hx,Option.toList_none,List.append_nil]
   exact ih
  |some a=>
   rw [Qd1 c M hx]
   exact (doA_rc ..).trans ih
theorem told_app {W w wr w2 w3:World} {c:Cg} {mp:Nat} {RA:Option Addr} {rcap:Nat} {Ft Fr F3:List Nat} {M':Mac} {be cp:Nat} {A:Option Addr} {evs ys:List Ev} (hW:W.heap.size≤w.heap.size) (hw:w.heap.size≤wr.heap.size) (c2:Chg [] wr w2) (hv:Vec 5 48 Ev.enc wr mp be A cp evs) (hbe:be≠mp→w.heap.size≤be∧be∉Fr) (hmo:Old wr mp)
 (hr:0<M'.rc.length→∀a:Addr,RA=some a→a.block<w.heap.size) (hc:Chg Ft w wr) (hFr:∀b∈Fr,b∈Ft∨w.heap.size≤b) (hm3:MaS W w3 c mp RA rcap F3 M') (k3:Chg Fr w2 w3) (hF3:∀b∈F3,b∈Fr∨w2.heap.size≤b) {A3:Option Addr} {c3:Nat} (hs3:Sl w3 5 A3 ys.length (cat Ev.enc ys)) (hlen:evs.length+ys.length≤1000000):
 ∃(be' cap':Nat) (A':Option Addr) (w4:World),appR Tryz.prog 41 41 #[.slice A evs.length cp,.slice A3 ys.length c3] w3=.ok (.slice A' (evs++ys).length cap') w4∧Vec 5 48 Ev.enc w4 mp be' A' cap' (evs++ys)∧(be'≠mp→w.heap.size≤be'∧be'∉F3)∧MaS W w4 c mp RA rcap F3 M'∧Chg Ft w w4∧∀b∈F3,b∈Ft∨w.heap.size≤b:=by
 have hz2:=c2.size
 have hz3:=k3.size
 have hv3:=(hv.keepN c2 (fun _=>Vn)).keepN k3 (fun h=>(hbe h).2)
 have hbo:Old wr be:=hv.old hmo
 have hbl:=hbo.lt
 have hb3:be≠mp→be∉F3:=fun h hm=>by
  rcases hF3 be hm with h1|h1
  ·exact (hbe h).2 h1
  ·omega
 have hF3':∀b∈F3,b∈Ft∨w.heap.size≤b:=fun b hb=>by
  rcases hF3 b hb with h1|h1
  ·exact hFr b h1
  ·right;omega
 obtain ⟨be',cap',A',w4,h1,h2,h3,h4,h5⟩:=hv3.app (ty:=41) eltEv hm3.mpOld hs3 (c:=c3) rfl (by omega) Cz17
 have hc3:Chg Ft w w3:=(hc.trans (c2.mono (by simp))).trans' k3 hFr
 refine ⟨be',cap',A',w4,by rw [List.length_append];exact h1,h2,fun h=>?_,?_,?_,hF3'⟩
 ·rcases h3 with rfl|h3
  ·exact ⟨(hbe h).1,hb3 h⟩
  ·exact ⟨by omega,fun hm=>by have:=hm3.old _ hm;omega⟩
 ·by_cases e:be=mp
  ·rw [e] at h4
   exact hm3.keep0 (h4.less h5)
  ·refine hm3.keepL h4 (by simpa using hb3 e) (by simpa using Nat.le_trans hW (hbe e).1) (fun h0 a ha=>?_)
   have:=hr h0 a ha
   have:=(hbe e).1
   simp only [List.mem_singleton]
   omega
 ·by_cases e:be=mp
  ·rw [e] at h4
   exact hc3.trans ((h4.less h5).mono (by simp))
  ·exact hc3.trans' h4 (by simpa using .inr (hbe e).1)
set_option maxHeartbeats 8000000 in
theorem mplay {W w:World} {c:Cg} {mp n:Nat} {RA:Option Addr} {rcap:Nat} {Ft:List Nat} {M:Mac} {cur:Nat→List Int} (h:MaS W w c mp RA rcap Ft M) (hI:MI c n M cur) (hT:Tabs W) {PA:Option Addr} {cap:Nat} {l:List Ac} (hs:Sl w 3 PA l.length (cat Ac.enc l)) (hcap:l.length≤cap) (hl:l.length≤100000) (hn:n+3*l.length+1≤1000000000) (hpf:0<l.length→∀a:Addr,PA=some a→a.block∉Ft):
 Calls Tryz.prog 24 #[.pointer (some ⟨mp,0,none⟩),.slice PA l.length cap] w (DoTo W w c mp RA rcap Ft (Qbr c M l)):=by
 have HI:=Vh hI
 have HS:=Vh hs
 have HT:=Vh hT
 have HL:=Vh hl
 have HN:=Vh hn
 have hsl:=slR_act PA l.length cap hcap w
 have gl:¬(100000:Int)<(l.length:Int):=by omega
 have gl2:(l.length:Int)≤100000:=by omega
 have gl3:min (l.length:Int) 100000=(l.length:Int):=by omega
 have HPF:=Vh hpf
 have HMS:=Vh h
 have HW:=Vh h.chg.size
 have HRO:=Vh h.recOld
 clear hI hs hT hl hn hcap hpf h
 go_enter Tryz.func24,Tryz.ntmps24
 go_wp2_with fail
 clear hsl gl3
 go_loopw [5,7,14] (fun o _ i wr=>∃(k be cp:Nat) (A:Option Addr) (Fr:List Nat),k≤l.length∧i=.int .i64 k∧o=.slice A (Qbr c M (l.take k)).2.length cp∧Vec 5 48 Ev.enc wr mp be A cp (Qbr c M (l.take k)).2∧(be≠mp→w.heap.size≤be∧be∉Fr)∧MaS W wr c mp RA rcap Fr (Qbr c M (l.take k)).1∧Chg Ft w wr∧∀b∈Fr,b∈Ft∨w.heap.size≤b) (fun _ _ i _=>l.length-(intOf i).toNat)
 case atStart=>exact ⟨0,mp,0,none,Ft,by omega,rfl,rfl,Vec.nil ..,fun h=>absurd rfl h,HMS.out,Chg.refl _ _,fun b hb=>.inl hb⟩
 case round=>
  obtain ⟨k,be,cp,A,Fr,hk,rfl,rfl,hv,hbe,hm,hc,hFr⟩:=hrel
  have HV:=Vh hv
  have HBE:=Vh hbe
  have HM:=Vh hm
  have HC:=Vh hc
  have HFR:=Vh hFr
  clear hv hbe hm hc hFr
  by_cases hlt:k<l.length
  ·obtain ⟨x,hx⟩:∃x,l[k]? =some x:=⟨l[k]'hlt,List.getElem?_eq_getElem _⟩
   have g3:(k:Int)<(l.length:Int):=by omega
   have g0:(0:Int)≤(k:Int):=by omega
   obtain ⟨b0,o0,hA⟩:=HS.out.addr (by omega)
   subst hA
   obtain ⟨cA,tA,fA,hA,_,hpart⟩:=HS.out.elem (by omega) hlt (Ju Ac.len hx)
   obtain ⟨hin,hpt⟩:=hpart 0 3 (by omega)
   have hAr:=HC.out.keep hA (HPF.out (by omega) _ rfl)
   have oA:=old hAr
   rw [Nat.add_zero] at hin hpt
   rw [show ((Ac.enc x).drop 0 |>.take 3).toArray=acc x from rfl] at hpt
   have HLT:=Vh hlt
   have HNX:=Vh (Qd1 c M hx)
   obtain ⟨cur',hI'⟩:=HI.out.play l k
   have HI':=Vh hI'
   have HLE:=Vh (playA_len c M l k)
   have HDL:=Vh (doA_len c (Qbr c M (l.take k)).1 x.kd x.co x.li)
   have HRC:=Vh (show (doA c (Qbr c M (l.take k)).1 x.kd x.co x.li).1.rc=M.rc from (doA_rc ..).trans (playA_rc ..))
   clear hx hlt hA hpart hk hI'
   generalize Qbr c M (l.take k)=r at *
   go_wp2_with fail
   have K2:=Vh ((Chg.refl [] wr).alloc (.cells (acc x) 44))
   refine (mdoS (HM.out.keep0 K2.out) HI'.out (by have:=HN.out;have:=HLT.out;omega) HT.out x).mono ?_
   rintro e w3 ⟨v,F3,rfl,⟨A3,c3,rfl,hs3,hA3⟩,hm3,k3,hF3⟩
   obtain ⟨be',cap',A',w4,happ,hv4,hbe4,hm4,hc4,hF4⟩:=told_app (c3:=c3) HW.out HC.out.size K2.out HV.out HBE.out HM.out.mpOld (by rw [HRC.out];exact HRO.out) HC.out HFR.out hm3 k3 hF3 hs3 (by have:=HLE.out;have:=HDL.out;have:=HL.out;have:=HLT.out;omega)
   have HV4:=Vh hv4
   have HBE4:=Vh hbe4
   have HM4:=Vh hm4
   have HC4:=Vh hc4
   have HF4:=Vh hF4
   clear hv4 hbe4 hm4 hc4 hF4 hm3 k3 hF3 hs3 hA3
   go_wp2_with fail
   go_roundw
   case rel=>exact ⟨k+1,be',cap',A',F3,HLT.out,by go_num,by rw [HNX.out];show _=Value.slice A' (r.2++(doA c r.1 x.kd x.co x.li).2).length cap';rw [List.length_append],by rw [HNX.out];exact HV4.out,HBE4.out,by rw [HNX.out];exact HM4.out,HC4.out,HF4.out⟩
   case measure=>have:=HLT.out;simp [intOf];omega
  ·have hkk:k=l.length:=by omega
   subst hkk
   clear hlt hk
   rw [List.take_length] at HV HM ⊢
   go_wp2_with fail
   go_ret
   refine ⟨_,Fr,rfl,⟨A,cp,rfl,HV.out.sl Ev.len,fun h0 a ha=>?_⟩,HM.out,HC.out,HFR.out⟩
   obtain ⟨h1,h2,_⟩:=HV.out.there h0
   rw [h2] at ha
   cases ha
   exact HBE.out h1
end
section
def J0 (c:Cg):List Ac:=((List.range c.co).flatMap fun i:Nat=>[⟨1,i,0⟩,⟨2,i,0⟩,⟨3,i,0⟩,⟨4,i,0⟩,⟨5,i,0⟩])++((List.range c.li).flatMap fun i:Nat=>[⟨6,0,i⟩,⟨9,0,i⟩])
def Qei (e:Ev):Bool:=e.kd==8&&e.va==5
def runR (c:Cg) (M:Mac):Nat→Mac×Bool
 |0=>(M,false)
 |n+1=>((Qbr c (runR c M n).1 (J0 c)).1,(runR c M n).2||(Qbr c (runR c M n).1 (J0 c)).2.any Qei)
def mi1:Ins:=⟨1,1,0,0,5⟩
def mi2:Ins:=⟨9,1,0,0,192⟩
def mi3:Ins:=⟨12,0,0,0,192⟩
def mi4:Ins:=⟨15,0,0,0,0⟩
def mi5:Ins:=⟨21,1,0,0,0⟩
def mi6:Ins:=⟨22,0,0,0,0⟩
def kM0:Mac:=newA kc (List.replicate (kc.li*8) 0) [[JI mi1,JI mi2,JI mi3,JI mi4,JI mi5,JI mi6],[JI mi6]] [JI mi6]
theorem run_quiet:(List.range 9).all (fun n=>!Qbj kc (runR kc kM0 n).1)=true:=by kernel_rfl
theorem run_end:Qbj kc (runR kc kM0 9).1=true∧(runR kc kM0 9).2=true∧ln (runR kc kM0 9).1.S.X 3=[5,0,0,0,0,0,0,0]∧(runR kc kM0 9).1.fa=0:=⟨by kernel_rfl,by kernel_rfl,by kernel_rfl,by kernel_rfl⟩
end
section
attribute [local go_sem ↓] Qgq cg_li cg_vo cg_qu cg_co cg_st
attribute [local go_sem] Qgm Qbp Qgv Qds JY
theorem acc_set0 (a:Ac) (x:Int):(acc a).setIfInBounds 0 (.int .i64 x)=acc ⟨x,a.co,a.li⟩:=rfl
theorem acc_set1 (a:Ac) (x:Int):(acc a).setIfInBounds 1 (.int .i64 x)=acc ⟨a.kd,x,a.li⟩:=rfl
theorem acc_set2 (a:Ac) (x:Int):(acc a).setIfInBounds 2 (.int .i64 x)=acc ⟨a.kd,a.co,x⟩:=rfl
attribute [local go_sem] acc_set0 acc_set1 acc_set2
theorem fold_act2 (x0 x1 x2 x3 x4 x5:Value) (a b:Ac):Array.foldl (fun cs x=>cs.setIfInBounds (3+x.snd) x.fst) (Array.foldl (fun cs x=>cs.setIfInBounds x.snd x.fst) #[x0,x1,x2,x3,x4,x5] (acc a).zipIdx 0 3) (acc b).zipIdx 0 3=(cat Ac.enc [a,b]).toArray:=by rfl
attribute [local go_sem] fold_act2
def rowR (i:Nat):List Ac:=[⟨1,i,0⟩,⟨2,i,0⟩,⟨3,i,0⟩,⟨4,i,0⟩,⟨5,i,0⟩]
def rowL (i:Nat):List Ac:=[⟨6,0,i⟩,⟨9,0,i⟩]
def rdR (i k:Nat):List Ac:=(List.range i).flatMap rowR++(rowR i).take k
theorem rdR_next (i k:Nat) (h:k<5):rdR i (k+1)=rdR i k++[⟨(k:Int)+1,(i:Int),0⟩]:=by
 unfold rdR
 rw [List.append_assoc]
 congr 1
 match k,h with
 |0,_=>rfl
 |1,_=>rfl
 |2,_=>rfl
 |3,_=>rfl
 |4,_=>rfl
theorem rdR_row (i:Nat):rdR i 5=rdR (i+1) 0:=by
 unfold rdR
 rw [List.range_succ,List.flatMap_append]
 simp [rowR]
theorem rdR_len (i k:Nat) (h:k≤5):(rdR i k).length=5*i+k:=by
 have h1:∀i,((List.range i).flatMap rowR).length=5*i:=by
  intro i
  induction i with
  |zero=>rfl
  |succ i ih=>rw [List.range_succ,List.flatMap_append,List.length_append,ih];simp [rowR];omega
 unfold rdR
 rw [List.length_append,h1,List.length_take]
 simp [rowR]
 omega
def rdL (c:Cg) (i:Nat):List Ac:=(List.range c.co).flatMap rowR++(List.range i).flatMap rowL
theorem rdL_next (c:Cg) (i:Nat):rdL c (i+1)=rdL c i++[⟨6,0,i⟩,⟨9,0,i⟩]:=by
 unfold rdL
 rw [List.append_assoc,List.range_succ,List.flatMap_append]
 simp [rowL]
theorem rdL_zero (c:Cg):rdL c 0=rdR c.co 0:=by simp [rdL,rdR]
theorem rdL_len (c:Cg) (i:Nat):(rdL c i).length=5*c.co+2*i:=by
 induction i with
 |zero=>rw [rdL_zero,rdR_len _ _ (by omega)]
 |succ i ih=>rw [rdL_next,List.length_append,ih];simp;omega
theorem sl_act1 (w:World) (a:Ac):Sl (w.alloc (.cells (acc a) 44)) 3 (some ⟨w.heap.size,0,none⟩) 1 (cat Ac.enc [a]):=by
 have hb:(w.alloc (.cells (acc a) 44)).heap[w.heap.size]? =some (.cells (acc a) 44 (0,0)):=by simp
 exact ⟨rfl,.inr ⟨w.heap.size,0,_,_,(0,0),rfl,hb,rfl⟩⟩
theorem sl_act2 (w:World) (a b:Ac):Sl (w.alloc (.cells (cat Ac.enc [a,b]).toArray 44)) 3 (some ⟨w.heap.size,0,none⟩) 2 (cat Ac.enc [a,b]):=by
 have hb:(w.alloc (.cells (cat Ac.enc [a,b]).toArray 44)).heap[w.heap.size]? =some (.cells (cat Ac.enc [a,b]).toArray 44 (0,0)):=by simp
 exact ⟨rfl,.inr ⟨w.heap.size,0,_,_,(0,0),rfl,hb,rfl⟩⟩
set_option maxHeartbeats 8000000 in
theorem mround {c:Cg} (hc:c.Ok) (w:World):Calls Tryz.prog 25 #[.agg c.cells] w fun e w'=>∃(A:Option Addr) (cap:Nat),e=.returned (.slice A (J0 c).length cap)∧Sl w' 3 A (J0 c).length (cat Ac.enc (J0 c))∧(J0 c).length≤cap∧(0<(J0 c).length→∀a,A=some a→w.heap.size≤a.block)∧Chg [] w w':=by
 have gco:(c.co:Int)≤8:=by have:=hc.co8;omega
 have gli:(c.li:Int)≤64:=by have:=hc.li64;omega
 have HO:=Vh (show c.co≤8∧c.li≤64 from ⟨hc.co8,hc.li64⟩)
 have hm:(w.alloc (.cells c.cells 23)).heap[w.heap.size]? =some (.cells c.cells 23 (0,0)):=by simp
 have C1:=Vh ((Chg.refl [] w).alloc (.cells c.cells 23))
 clear hc
 go_enter Tryz.func25,Tryz.ntmps25
 go_wp2_with fail
 generalize hw1:w.alloc (.cells c.cells 23)=w1 at *
 generalize hq:w.heap.size=q at *
 have oq:=old hm
 clear hw1
 have HQ:=Vh hq
 clear hq
 go_loopw [3,4,5] (fun o i _ wr=>∃(j be cp:Nat) (A:Option Addr),j≤c.co∧i=.int .i64 j∧o=.slice A (rdR j 0).length cp∧Vec 3 44 Ac.enc wr q be A cp (rdR j 0)∧(be=q∨w1.heap.size≤be)∧Chg [] w1 wr) (fun _ i _ _=>c.co-(intOf i).toNat)
 case atStart=>exact ⟨0,q,0,none,by omega,rfl,rfl,Vec.nil ..,.inl rfl,Chg.refl _ _⟩
 case round=>
  obtain ⟨j,be,cp,A,hj,rfl,rfl,hv,hbe,hc⟩:=hrel
  have HV:=Vh hv
  have HBE:=Vh hbe
  have HC:=Vh hc
  have hmr:=hc.keep hm (by simp)
  have omr:=old hmr
  clear hv hbe hc
  by_cases hlt:j<c.co
  ·have g3:(j:Int)<(c.co:Int):=by omega
   have HLT:=Vh hlt
   clear hlt hj
   go_wp2_with fail
   go_loopw [3,5] (fun o i wq=>∃(k be cp:Nat) (A:Option Addr),k≤5∧i=.int .i64 ((k:Int)+1)∧o=.slice A (rdR j k).length cp∧Vec 3 44 Ac.enc wq q be A cp (rdR j k)∧(be=q∨w1.heap.size≤be)∧Chg [] w1 wq) (fun _ i _=>6-(intOf i).toNat)
   case atStart=>exact ⟨0,be,cp,A,by omega,rfl,rfl,HV.out,HBE.out,HC.out⟩
   case round=>
    obtain ⟨k,be,cp,A,hk,rfl,rfl,hv,hbe,hc⟩:=hrel
    have HV:=Vh hv
    have HBE:=Vh hbe
    have HC:=Vh hc
    have hmr:=hc.keep hm (by simp)
    have omr:=old hmr
    clear hv hbe hc
    by_cases hlt:k<5
    ·have g5:(k:Int)+1≤5:=by omega
     have HLK:=Vh hlt
     obtain ⟨be',cp',A2,w2,happ,hv2,hbe2,hc2⟩:=Vec.acc (ty:=29) eltAc (w0:=w1) (HC.out.trans ((Chg.refl [] wr).alloc (.cells (acc ⟨(k:Int)+1,(j:Int),0⟩) 44))) (HV.out.keep ((Chg.refl [] wr).alloc _) (by simp)) HBE.out oq (sl_act1 wr _) (c:=1) rfl (by rw [rdR_len _ _ hk];have:=HO.out;have:=HLT.out;omega) (by rw [rdR_len _ _ hk];have:=HO.out;have:=HLT.out;unfold maxLen;omega)
     have HV2:=Vh hv2
     have HBE2:=Vh hbe2
     have HC2:=Vh hc2
     have HNX:=Vh (rdR_next j k hlt)
     clear hv2 hbe2 hc2 hlt hk
     go_wp2_with fail
     go_roundw
     case rel=>exact ⟨k+1,be',cp',A2,HLK.out,by go_num,by rw [HNX.out,List.length_append];rfl,by rw [HNX.out];exact HV2.out,HBE2.out,HC2.out⟩
     case measure=>have:=HLK.out;simp [intOf];omega
    ·have hkk:k=5:=by omega
     subst hkk
     clear hlt hk
     rw [rdR_row] at HV ⊢
     go_wp2_with fail
     go_roundw
     case rel=>exact ⟨j+1,be,cp,A,HLT.out,by go_num,rfl,HV.out,HBE.out,HC.out⟩
     case measure=>have:=HLT.out;simp [intOf];omega
  ·have hkk:j=c.co:=by omega
   subst hkk
   clear hlt hj
   rw [←rdL_zero] at HV ⊢
   go_wp2_with fail
   go_loopw [3,6] (fun o i wq=>∃(k be cp:Nat) (A:Option Addr),k≤c.li∧i=.int .i64 (k:Int)∧o=.slice A (rdL c k).length cp∧Vec 3 44 Ac.enc wq q be A cp (rdL c k)∧(be=q∨w1.heap.size≤be)∧Chg [] w1 wq) (fun _ i _=>c.li-(intOf i).toNat)
   case atStart=>exact ⟨0,be,cp,A,by omega,rfl,rfl,HV.out,HBE.out,HC.out⟩
   case round=>
    obtain ⟨k,be,cp,A,hk,rfl,rfl,hv,hbe,hc⟩:=hrel
    have HV:=Vh hv
    have HBE:=Vh hbe
    have HC:=Vh hc
    have hmr:=hc.keep hm (by simp)
    have omr:=old hmr
    clear hv hbe hc
    by_cases hlt:k<c.li
    ·have g5:(k:Int)<(c.li:Int):=by omega
     have HLK:=Vh hlt
     obtain ⟨be',cp',A2,w2,happ,hv2,hbe2,hc2⟩:=Vec.acc (ty:=29) eltAc (w0:=w1) (HC.out.trans ((Chg.refl [] wr).alloc (.cells (cat Ac.enc [⟨6,0,(k:Int)⟩,⟨9,0,(k:Int)⟩]).toArray 44))) (HV.out.keep ((Chg.refl [] wr).alloc _) (by simp)) HBE.out oq (sl_act2 wr _ _) (c:=2) rfl (by rw [rdL_len];have:=HO.out;omega) (by rw [rdL_len];have:=HO.out;unfold maxLen;omega)
     have HV2:=Vh hv2
     have HBE2:=Vh hbe2
     have HC2:=Vh hc2
     have HNX:=Vh (rdL_next c k)
     clear hv2 hbe2 hc2 hlt hk
     go_wp2_with fail
     go_roundw
     case rel=>exact ⟨k+1,be',cp',A2,HLK.out,by go_num,by rw [HNX.out,List.length_append];rfl,by rw [HNX.out];exact HV2.out,HBE2.out,HC2.out⟩
     case measure=>have:=HLK.out;simp [intOf];omega
    ·have hkk:k=c.li:=by omega
     subst hkk
     clear hlt hk
     go_wp2_with fail
     go_ret
     refine ⟨A,cp,rfl,HV.out.sl Ac.len,HV.out.le,fun h0 a ha=>?_,C1.out.trans HC.out⟩
     obtain ⟨h1,h2,_⟩:=HV.out.there h0
     rw [h2] at ha
     cases ha
     have:=HBE.out
     have:=C1.out.size
     rcases HBE.out with h3|h3
     ·exact absurd h3 h1
     ·show w.heap.size≤be
      omega
end
section
attribute [local go_sem] Qco Qcn Qcm Qcl Qck insZ_op insZ_a insZ_b insZ_c insZ_im
attribute [local go_sem ↓] Qgq cg_li cg_vo cg_qu cg_co cg_st storeCg
attribute [local go_sem] Qgm Qbp Qgv Qds
theorem wp_value15 {P:Program} {o:Oper} {a:Act} {w w':World} {K:Act→World→Prop} {Q:Exit→Act→World→Prop} {v:Value} (h:(execOp a.eval o).run P w=.ok (.value v) w') (hk:K (a.put o.dst v) w'):o.wp P a w K Q:=by
 unfold Oper.wp
 rw [h]
 exact hk
theorem putRow_cg (w:World) (c:Cg):putRow (w.alloc (.cells #[.int .i64 0,.int .i64 0,.int .i64 0,.int .i64 0,.int .i64 0,.int .i64 0,.int .i64 0] 23)) w.heap.size 0 c.cells=w.alloc (.cells c.cells 23):=by
 rw [Qj _ _ _ _ (by rw [Qbp];rfl)]
attribute [local go_sem ↓] putRow_cg
theorem MaS.at {W w:World} {c:Cg} {mp:Nat} {RA:Option Addr} {rcap:Nat} {Ft:List Nat} {M:Mac} (h:MaS W w c mp RA rcap Ft M):∃cb sy F ks,MaM W w c mp cb sy F ks RA rcap M:=by
 obtain ⟨cb,sy,F,ks,_,hm⟩:=h
 exact ⟨cb,sy,F,ks,hm⟩
theorem mquietS {W w:World} {c:Cg} {mp n:Nat} {RA:Option Addr} {rcap:Nat} {Ft:List Nat} {M:Mac} {cur:Nat→List Int} (h:MaS W w c mp RA rcap Ft M) (hI:MI c n M cur):Calls Tryz.prog 23 #[.pointer (some ⟨mp,0,none⟩)] w fun e w'=>e=.returned (.bool (Qbj c M))∧Chg [] w w':=by
 obtain ⟨cb,sy,F,ks,hm⟩:=h.at
 exact mquiet hm hI
theorem kI15:MI kc 0 kM0 (fun i=>Go.Proofs.YtcgjofbkcgedfaaGreatDoor.ln (List.replicate (kc.li*8) 0) i):=MI.new kc_ok (by simp) (by intro x hx;rw [List.mem_replicate] at hx;omega) ⟨by decide,by decide⟩
theorem kRun (k:Nat):∃cur',MI kc (66*k) (runR kc kM0 k).1 cur':=by
 induction k with
 |zero=>exact ⟨_,kI15⟩
 |succ k ih=>
  obtain ⟨cur1,h1⟩:=ih
  obtain ⟨cur2,h2⟩:=h1.play (J0 kc) (J0 kc).length
  rw [List.take_length] at h2
  refine ⟨cur2,?_⟩
  have e:66*(k+1)=66*k+3*(J0 kc).length:=by rw [show (J0 kc).length=22 from rfl];omega
  rw [e]
  exact h2
theorem run_quiet_at {k:Nat} (h:k<9):Qbj kc (runR kc kM0 k).1=false:=by
 have:=List.all_eq_true.1 run_quiet k (List.mem_range.2 h)
 simpa using this
theorem any_next {α:Type} {p:α→Bool} {xs:List α} {k:Nat} {x:α} (hx:xs[k]? =some x):(xs.take (k+1)).any p=((xs.take k).any p||p x):=by
 rw [List.take_add_one,hx,List.any_append]
 simp
def kins:List Ins:=[mi1,mi2,mi3,mi4,mi5,mi6]
theorem kgood:∀i∈kins,YF i=true:=by decide
theorem kgood1:∀i∈[mi6],YF i=true:=by decide
set_option maxHeartbeats 8000000 in
theorem mwakes15 (W:World) (hT:Tabs W):Calls Tryz.prog 14 #[] W fun e w'=>e=.returned (.bool true)∧Chg [] W w':=by
 have HT:=Vh hT
 have HQ:=Vh (show Old W 1 from hT.1.elim fun _ h=>h.elim fun _ h=>old h)
 clear hT
 go_enter Tryz.func14,Tryz.ntmps14
 try dsimp only [List.append]
 go_wp2_with fail
 refine (kplain W).mono ?_
 rintro e w0 ⟨rfl,c0⟩
 have C0:=Vh c0
 clear c0
 have hcf:(w0.alloc (.cells kc.cells 23)).heap[w0.heap.size]? =some (.cells kc.cells 23 (0,0)):=by simp
 have C1:=Vh (C0.out.alloc (.cells kc.cells 23))
 have HQ0:=Vh (HQ.out.chg C1.out)
 go_upto_region 2 with (fail)
 generalize w0.alloc (.cells kc.cells 23)=w1 at *
 generalize w0.heap.size=p1 at *
 have ocf:=old hcf
 clear C0
 go_step
 iterate 17 (first |go_values|go_skip|go_guarded|go_step)
 go_at_K
 go_step
 go_step
 refine wp_value15 (v:=.slice (some ⟨w1.heap.size,0,none⟩) 6 6) (w':=w1.alloc (.cells (cat Ins.enc kins).toArray 68)) (by kernel_rfl) ?_
 have c2:Chg [] w1 (w1.alloc (.cells (cat Ins.enc kins).toArray 68)):=(Chg.refl [] w1).alloc _
 have hb2:(w1.alloc (.cells (cat Ins.enc kins).toArray 68)).heap[w1.heap.size]? =some (.cells (cat Ins.enc kins).toArray 68 (0,0)):=by simp
 have hsl:Sl (w1.alloc (.cells (cat Ins.enc kins).toArray 68)) 5 (some ⟨w1.heap.size,0,none⟩) 6 (cat Ins.enc kins):=⟨rfl,.inr ⟨w1.heap.size,0,_,_,(0,0),rfl,hb2,rfl⟩⟩
 have HSL:=Vh hsl
 have C2:=Vh (C1.out.trans c2)
 have hcf2:=c2.keep hcf (by simp)
 clear c2 hb2 hsl hcf ocf C1
 generalize w1.alloc (.cells (cat Ins.enc kins).toArray 68)=w2 at *
 generalize w1.heap.size=p2 at *
 have ocf2:=old hcf2
 go_at_K
 go_wp2_with fail
 refine (rcode (q:=1) HSL.out rfl (by omega) kgood (HQ.out.chg C2.out)).mono ?_
 rintro e w3 ⟨be3,A3,c3,rfl,hv,hbe,hc⟩
 have HV3:=Vh (show Sl w3 1 A3 6 ((kins.map JI).map (Value.int .u64)) by have:=hv.sl uenc_len;rw [cat_uenc] at this;exact this)
 have hcf3:=hc.keep hcf2 (by simp)
 have ocf3:=old hcf3
 have C3:=Vh (C2.out.trans hc)
 clear hv hbe hc hcf2 ocf2 HSL C2
 go_upto_region 3 with (fail)
 go_step
 iterate 2 (first |go_values|go_skip|go_guarded|go_step)
 go_at_K
 go_step
 go_step
 refine wp_value15 (v:=.slice (some ⟨w3.heap.size,0,none⟩) 1 1) (w':=w3.alloc (.cells (cat Ins.enc [mi6]).toArray 68)) (by kernel_rfl) ?_
 have c4:Chg [] w3 (w3.alloc (.cells (cat Ins.enc [mi6]).toArray 68)):=(Chg.refl [] w3).alloc _
 have hb4:(w3.alloc (.cells (cat Ins.enc [mi6]).toArray 68)).heap[w3.heap.size]? =some (.cells (cat Ins.enc [mi6]).toArray 68 (0,0)):=by simp
 have hsl4:Sl (w3.alloc (.cells (cat Ins.enc [mi6]).toArray 68)) 5 (some ⟨w3.heap.size,0,none⟩) 1 (cat Ins.enc [mi6]):=⟨rfl,.inr ⟨w3.heap.size,0,_,_,(0,0),rfl,hb4,rfl⟩⟩
 have HSL4:=Vh hsl4
 have C4:=Vh (C3.out.trans c4)
 have HV4:=Vh (HV3.out.keep0 c4 (fun _ _ _=>Vn))
 have hcf4:=c4.keep hcf3 (by simp)
 clear c4 hb4 hsl4 hcf3 ocf3 C3 HV3
 generalize w3.alloc (.cells (cat Ins.enc [mi6]).toArray 68)=w4 at *
 generalize w3.heap.size=p4 at *
 have ocf4:=old hcf4
 go_at_K
 go_wp2_with fail
 refine (rcode (q:=1) HSL4.out rfl (by omega) kgood1 (HQ.out.chg C4.out)).mono ?_
 rintro e w5 ⟨be5,A5,c5,rfl,hv,hbe,hc⟩
 have HV5:=Vh (show Sl w5 1 A5 1 (([JI mi6]:List Int).map (Value.int .u64)) by have:=hv.sl uenc_len;rw [cat_uenc] at this;exact this)
 have HV6:=Vh (HV4.out.keep0 hc (fun _ _ _=>Vn))
 have hcf5:=hc.keep hcf4 (by simp)
 have ocf5:=old hcf5
 have C5:=Vh (C4.out.trans hc)
 clear hv hbe hc hcf4 ocf4 HSL4 C4 HV4
 go_wp2_with fail
 have c6:Chg [] w5 (w5.alloc (.cells #[.slice A3 6 c3,.slice A5 1 c5] 26)):=(Chg.refl [] w5).alloc _
 have hb6:(w5.alloc (.cells #[.slice A3 6 c3,.slice A5 1 c5] 26)).heap[w5.heap.size]? =some (.cells #[.slice A3 6 c3,.slice A5 1 c5] 26 (0,0)):=by simp
 have HPS:=Vh (show Sl (w5.alloc (.cells #[.slice A3 6 c3,.slice A5 1 c5] 26)) 1 (some ⟨w5.heap.size,0,none⟩) kc.co (cat re [⟨A3,6,c3⟩,⟨A5,1,c5⟩]) from ⟨rfl,.inr ⟨w5.heap.size,0,_,_,(0,0),rfl,hb6,rfl⟩⟩)
 have HPA:=Vh (show ProgsAre (w5.alloc (.cells #[.slice A3 6 c3,.slice A5 1 c5] 26)) [⟨A3,6,c3⟩,⟨A5,1,c5⟩] [kins.map JI,[JI mi6]] from by
  intro i r u hr hu
  match i with
  |0=>cases hr;cases hu;exact ⟨rfl,HV6.out.keep0 c6 (fun _ _ _=>Vn),by decide,by decide⟩
  |1=>cases hr;cases hu;exact ⟨rfl,HV5.out.keep0 c6 (fun _ _ _=>Vn),by decide,by decide⟩
  |i+2=>cases hr)
 have HV7:=Vh (show Sl (w5.alloc (.cells #[.slice A3 6 c3,.slice A5 1 c5] 26)) 1 A5 ([JI mi6]:List Int).length (([JI mi6]:List Int).map (Value.int .u64)) from HV5.out.keep0 c6 (fun _ _ _=>Vn))
 have C6:=Vh (C5.out.trans c6)
 have hcf6:=c6.keep hcf5 (by simp)
 clear c6 hb6 hcf5 ocf5 C5 HV5 HV6
 generalize w5.alloc (.cells #[.slice A3 6 c3,.slice A5 1 c5] 26)=w6 at *
 generalize w5.heap.size=p6 at *
 refine (mcnew (W:=W) (c:=kc) (n:=0) (A:=none) (nc:=0) (ys:=List.replicate (kc.li*8) 0) kc_ok C6.out HT.out (.inl ⟨rfl,rfl⟩) HPS.out rfl rfl HPA.out HV7.out ⟨by decide,by decide⟩).mono ?_
 rintro e w7 ⟨mp,RA,rcap,Ft,rfl,hms,k7,hFt⟩
 have HM7:=Vh (show MaS W w7 kc mp RA rcap Ft kM0 from hms)
 have hcf7:=k7.keep hcf6 (by simp)
 have ocf7:=old hcf7
 have HPF:=Vh (show p1<w6.heap.size from (old hcf6).lt)
 have HF7:=Vh hFt
 have HW67:=Vh k7.size
 clear hms k7 hFt hcf6 HPS HPA HV7 C6
 go_wp2_with fail
 go_loopw [6,7,8,9] (fun o i _ _ wr=>∃(k:Nat) (Fr:List Nat),k≤9∧i=.int .i64 k∧o=.bool (runR kc kM0 k).2∧MaS W wr kc mp RA rcap Fr (runR kc kM0 k).1∧(∀b∈Fr,w6.heap.size≤b)∧w6.heap.size≤wr.heap.size∧wr.heap[p1]? =some (.cells kc.cells 23 (0,0))) (fun _ i _ _ _=>9-(intOf i).toNat)
 case atStart=>exact ⟨0,Ft,by omega,rfl,rfl,HM7.out,HF7.out,HW67.out,hcf7⟩
 case round=>
  obtain ⟨k,Fr,hk,rfl,rfl,hm,hFr,hsz,hcf⟩:=hrel
  have HM:=Vh hm
  have HFR:=Vh hFr
  have HSZ:=Vh hsz
  have ocf:=old hcf
  clear hm hFr hsz
  by_cases hlt:k<9
  ·obtain ⟨cur',hI⟩:=kRun k
   have HI:=Vh hI
   have hq:=mquietS HM.out hI
   rw [run_quiet_at hlt] at hq
   have HQT:=Vh hq
   have HNX:=Vh (show runR kc kM0 (k+1)=((Qbr kc (runR kc kM0 k).1 (J0 kc)).1,(runR kc kM0 k).2||(Qbr kc (runR kc kM0 k).1 (J0 kc)).2.any Qei) from rfl)
   have g40:(k:Int)<40:=by omega
   have HLT:=Vh hlt
   clear hlt hk hI hq
   generalize runR kc kM0 k=r at *
   go_wp2_with (go_at_call 23;refine HQT.out.mono ?_;rintro e w8 ⟨rfl,c8⟩;have C8:=Vh c8;have hcf8:=c8.keep hcf (by simp);have ocf8:=old hcf8;clear c8 hcf ocf)
   refine (mround kc_ok w8).mono ?_
   rintro e w9 ⟨A9,cp9,rfl,hs9,hle9,hfr9,c9⟩
   have HM9:=Vh ((HM.out.keep0 C8.out).keep0 c9)
   have HS9:=Vh hs9
   have HL9:=Vh hle9
   have hcf9:=c9.keep hcf8 (by simp)
   have ocf9:=old hcf9
   have HPF9:=Vh (show 0<(J0 kc).length→∀a:Addr,A9=some a→a.block∉Fr from fun h0 a ha hm=>by have:=hfr9 h0 a ha;have:=(HM.out.keep0 C8.out).old _ hm;omega)
   have C9:=Vh (C8.out.trans c9)
   clear hs9 hle9 hfr9 c9 hcf8 ocf8 HM HQT C8
   go_wp2_with fail
   refine (mplay HM9.out HI.out HT.out HS9.out HL9.out (by decide) (by rw [show (J0 kc).length=22 from rfl];have:=HLT.out;omega) HPF9.out).mono ?_
   rintro e w10 ⟨v,F10,rfl,⟨A10,cp10,rfl,hs10,_⟩,hm10,k10,hF10⟩
   have hcf10:=k10.keep hcf9 (fun hm=>by have:=HFR.out _ hm;have:=HPF.out;omega)
   have ocf10:=old hcf10
   have HM10:=Vh hm10
   have HS10:=Vh hs10
   have HF10:=Vh (show ∀b∈F10,w6.heap.size≤b from fun b hb=>by
    rcases hF10 b hb with h1|h1
    ·exact HFR.out b h1
    ·have:=HSZ.out;have:=C9.out.size;omega)
   have HSZ10:=Vh (show w6.heap.size≤w10.heap.size by have:=HSZ.out;have:=C9.out.size;have:=k10.size;omega)
   have HEL:=Vh (show (Qbr kc r.1 (J0 kc)).2.length≤44 by have:=playA_len kc r.1 (J0 kc) (J0 kc).length;rw [List.take_length] at this;exact this)
   clear hm10 hs10 hF10 k10 hcf9 ocf9 HM9 HS9 HL9 HPF9
   generalize hev:(Qbr kc r.1 (J0 kc)).2=evs at *
   have gel:(evs.length:Int)≤44:=by have:=HEL.out;omega
   generalize hMn:(Qbr kc r.1 (J0 kc)).1=Mn at *
   go_wp2_with fail
   go_loopw [6,9] (fun o i wz=>∃j:Nat,j≤evs.length∧i=.int .i64 j∧o=.bool (r.2||(evs.take j).any Qei)∧wz=w10) (fun _ i _=>evs.length-(intOf i).toNat)
   case atStart=>exact ⟨0,by omega,rfl,by simp,rfl⟩
   case round=>
    obtain ⟨j,hj,rfl,rfl,rfl⟩:=hrel
    by_cases hlt:j<evs.length
    ·obtain ⟨x,hx⟩:∃x,evs[j]? =some x:=⟨evs[j]'hlt,List.getElem?_eq_getElem _⟩
     have g3:(j:Int)<(evs.length:Int):=by omega
     have g0:(0:Int)≤(j:Int):=by omega
     obtain ⟨b0,o0,hA⟩:=HS10.out.addr (by omega)
     subst hA
     obtain ⟨cA,tA,fA,hA,hi,_⟩:=HS10.out.elem (by omega) hlt (Ju Ev.len hx)
     have r0:cA[o0+j*5]? =some (.int .i64 x.kd):=hi 0 (by omega)
     have r4:cA[o0+j*5+4]? =some (.int .u64 x.va):=hi 4 (by omega)
     have oA:=old hA
     have HAN:=Vh (any_next (p:=Qei) hx)
     have HLJ:=Vh hlt
     have HX5:=Vh (show Qei x=(x.kd==8&&x.va==5) from rfl)
     clear hx hi hlt hj
     cases hb:(r.2||(evs.take j).any Qei)
     ·have HB:=Vh hb
      by_cases h8:x.kd=8
      ·by_cases h5:x.va=5
       ·have HV:=Vh (show (r.2||(evs.take (j+1)).any Qei)=true by rw [HAN.out,←Bool.or_assoc,HB.out,HX5.out];simp [h8,h5])
        go_wp2_with fail
        go_roundw
        case rel=>exact ⟨j+1,HLJ.out,by go_num,by rw [HV.out],trivial⟩
        case measure=>have:=HLJ.out;simp [intOf];omega
       ·have HV:=Vh (show (r.2||(evs.take (j+1)).any Qei)=false by rw [HAN.out,←Bool.or_assoc,HB.out,HX5.out];simp [h5])
        have h5b:(x.va==5)=false:=beq_eq_false_iff_ne.2 h5
        go_wp2_with fail
        go_roundw
        case rel=>exact ⟨j+1,HLJ.out,by go_num,by rw [HV.out],trivial⟩
        case measure=>have:=HLJ.out;simp [intOf];omega
      ·have HV:=Vh (show (r.2||(evs.take (j+1)).any Qei)=false by rw [HAN.out,←Bool.or_assoc,HB.out,HX5.out];simp [h8])
       have h8b:(x.kd==8)=false:=beq_eq_false_iff_ne.2 h8
       go_wp2_with fail
       go_roundw
       case rel=>exact ⟨j+1,HLJ.out,by go_num,by rw [HV.out],trivial⟩
       case measure=>have:=HLJ.out;simp [intOf];omega
     ·have HV:=Vh (show (r.2||(evs.take (j+1)).any Qei)=true by rw [HAN.out,←Bool.or_assoc,hb];rfl)
      go_wp2_with fail
      go_roundw
      case rel=>exact ⟨j+1,HLJ.out,by go_num,by rw [HV.out],trivial⟩
      case measure=>have:=HLJ.out;simp [intOf];omega
    ·have hjj:j=evs.length:=by omega
     subst hjj
     clear hlt hj
     rw [List.take_length]
     go_wp2_with fail
     go_roundw
     case rel=>exact ⟨k+1,F10,HLT.out,by go_num,by rw [HNX.out],by rw [HNX.out];exact HM10.out,HF10.out,HSZ10.out,hcf10⟩
     case measure=>have:=HLT.out;simp [intOf];omega
  ·have hkk:k=9:=by omega
   subst hkk
   clear hlt hk
   obtain ⟨cur',hI⟩:=kRun 9
   have hq:=fun w2 (c2:Chg [] wr w2)=>mquietS (HM.out.keep0 c2) hI
   rw [run_end.1] at hq
   have HQT:=Vh hq
   obtain ⟨cb,sy,F,ks,hmm⟩:=HM.out.at
   have HMM:=Vh hmm
   have HX3:=Vh run_end.2.2.1
   have hfa:=run_end.2.2.2
   rw [run_end.2.1]
   clear hI hq hmm
   have HX24:=Vh (show (runR kc kM0 9).1.S.X[24]? =some 5 by
    have h1:=HX3.out
    unfold ln at h1
    have h2:=congrArg (fun l=>l[0]?) h1
    simpa using h2)
   generalize (runR kc kM0 9).1=M9 at *
   obtain ⟨p0,Q0,hp0,_⟩:=HMM.out.kAt (j:=0) (by decide)
   have HP0:=Vh hp0
   clear hp0
   go_wp2_with (first
    |(go_at_call 23;refine (HQT.out _ (Chg.refl _ _)).mono ?_;rintro e w8 ⟨rfl,c8⟩;have C8:=Vh c8;clear c8)
    |(go_at_call 21;refine (msystem (HMM.out.keep0 C8.out)).mono ?_;rintro e w9 ⟨rfl,rfl⟩))
   refine (show Calls Tryz.prog 22 #[.pointer (some ⟨sy,0,none⟩)] w8 (Qf0 w8 6 M9.S.X) from mmemory_ok (HMM.out.keep0 C8.out).sys).mono ?_
   rintro e w10 ⟨g,cap,r,rfl,hg,_,_,c10⟩
   have og:=old hg
   have r24:=bk_cell HX24.out r
   have C10:=Vh (C8.out.trans c10)
   clear c10
   go_wp2_with fail
   refine (HQT.out _ C10.out).mono ?_
   rintro e w11 ⟨rfl,c11⟩
   have hg11:=c11.keep hg (by simp)
   have og11:=old hg11
   have HM11:=Vh (HMM.out.keep0 (C10.out.trans c11))
   have HC0:=Vh (show Calls Tryz.prog 26 #[.pointer (some ⟨mp,0,none⟩),.int .i64 0] w11 fun e w'=>e=.returned (.pointer (some ⟨p0.kb,0,none⟩))∧w'=w11 from Qe9 (j:=0) HM11.out HP0.out)
   have HC2:=Vh (show Calls Tryz.prog 26 #[.pointer (some ⟨mp,0,none⟩),.int .i64 2] w11 fun e w'=>e=.returned (.pointer none)∧w'=w11 from Qe8 HM11.out (by decide))
   have hff:=mfails HM11.out
   rw [hfa] at hff
   have HFF:=Vh (show Calls Tryz.prog 27 #[.pointer (some ⟨mp,0,none⟩)] w11 fun e w'=>e=.returned (.int .i64 0)∧w11=w' from hff)
   clear c11 hg og hff
   go_wp2_with fail
   refine HC0.out.mono ?_
   rintro e w12 ⟨rfl,rfl⟩
   go_wp2_with fail
   refine HC2.out.mono ?_
   rintro e w13 ⟨rfl,rfl⟩
   go_wp2_with fail
   refine HFF.out.mono ?_
   rintro e w14 ⟨rfl,rfl⟩
   go_wp2_with fail
   go_ret
   exact ⟨rfl,HM11.out.allChg⟩
end
section
attribute [local go_sem ↓] Qgq cg_li cg_vo cg_qu cg_co cg_st storeCg
attribute [local go_sem] Qgm Qbp Qgv Qds
theorem mcnew_zero (w:World):Calls Tryz.prog 15 #[.agg #[.int .i64 0,.int .i64 0,.int .i64 0,.int .i64 0,.int .i64 0,.int .i64 0,.int .i64 0],.slice none 0 0,.slice none 0 0,.slice none 0 0] w fun e w'=>e=.returned (.tuple #[.pointer none,.int .i64 1])∧Chg [] w w':=by
 have C1:=Vh ((Chg.refl [] w).alloc (.cells #[.int .i64 0,.int .i64 0,.int .i64 0,.int .i64 0,.int .i64 0,.int .i64 0,.int .i64 0] 23))
 have r1:(w.alloc (.cells #[.int .i64 0,.int .i64 0,.int .i64 0,.int .i64 0,.int .i64 0,.int .i64 0,.int .i64 0] 23)).heap[w.heap.size]? =some (.cells #[.int .i64 0,.int .i64 0,.int .i64 0,.int .i64 0,.int .i64 0,.int .i64 0,.int .i64 0] 23 (0,0)):=by simp
 go_enter Tryz.func15,Tryz.ntmps15
 try dsimp only [List.append]
 go_wp2_with fail
 refine (znew_zero _).mono ?_
 rintro e w2 ⟨rfl,c2⟩
 go_wp2_with fail
 go_ret2
 exact ⟨rfl,C1.out.trans c2⟩
theorem macdo_nil (a:Ac) (w:World):Calls Tryz.prog 18 #[.pointer none,.agg (acc a)] w fun e w'=>e=.returned (.slice none 0 0)∧Chg [] w w':=by
 go_enter Tryz.func18,Tryz.ntmps18
 go_wp2_with fail
 go_ret
 exact ⟨rfl,(Chg.refl [] w).alloc _⟩
theorem ev_app_none (w:World):appR Tryz.prog 41 41 #[.slice none 0 0,.slice none 0 0] w=.ok (.slice none 0 0) w:=by
 obtain ⟨i0,hi0,hz0,hz1,hz2⟩:=info_parts eltEv.info
 simp [appR,Builtin.append_,run_underlying eltEv.slice,sizeOf,typeInfo,hi0,Builtin.lenOf,Builtin.firstCells]
attribute [local go_sem] Y2
theorem mplay_nil (a:Ac) (b:Nat) (w:World) (hb:w.heap[b]? =some (.cells (acc a) 44 (0,0))):Calls Tryz.prog 24 #[.pointer none,.slice (some ⟨b,0,none⟩) 1 1] w fun e w'=>e=.returned (.slice none 0 0)∧Chg [] w w':=by
 have hsl:=slR_act (some ⟨b,0,none⟩) 1 1 (Nat.le_refl _) w
 rw [show ((1:Nat):Int)=1 from rfl] at hsl
 have hap:=ev_app_none
 have ob:=old hb
 have gl3:min (1:Int) 100000=1:=by decide
 go_enter Tryz.func24,Tryz.ntmps24
 go_wp2_with fail
 clear hsl gl3
 go_loopw [5,7,14] (fun o _ i wr=>∃k:Nat,k≤1∧i=.int .i64 k∧o=.slice none 0 0∧Chg [] w wr) (fun _ _ i _=>1-(intOf i).toNat)
 case atStart=>exact ⟨0,by omega,rfl,rfl,Chg.refl _ _⟩
 case round=>
  obtain ⟨k,hk,rfl,rfl,hc⟩:=hrel
  by_cases hlt:k<1
  ·have hk0:k=0:=by omega
   subst hk0
   have hbr:=hc.keep hb (by simp)
   have obr:=old hbr
   have HC:=Vh hc
   clear hc hb ob hlt hk
   go_wp2_with fail
   refine (macdo_nil a _).mono ?_
   rintro e w3 ⟨rfl,c3⟩
   have C3:=Vh ((HC.out.alloc _).trans c3)
   clear c3
   go_wp2_with fail
   go_roundw
   case rel=>exact ⟨1,by omega,by go_num,rfl,C3.out⟩
   case measure=>simp [intOf]
  ·have hk0:k=1:=by omega
   subst hk0
   have HC:=Vh hc
   clear hc hlt hk
   go_wp2_with fail
   go_ret
   exact ⟨rfl,HC.out⟩
set_option maxHeartbeats 8000000 in
theorem mmachineNone (a:Ac) (W:World) (hT:Tabs W):Calls Tryz.prog 6 #[.agg (acc a)] W fun e w'=>e=.returned (.bool true)∧Chg [] W w':=by
 have HT:=Vh hT
 clear hT
 have r1:(W.alloc (.cells (acc a) 44)).heap[W.heap.size]? =some (.cells (acc a) 44 (0,0)):=by simp
 have C1:=Vh ((Chg.refl [] W).alloc (.cells (acc a) 44))
 go_enter Tryz.func6,Tryz.ntmps6
 try dsimp only [List.append]
 go_wp2_with fail
 generalize W.alloc (.cells (acc a) 44)=w1 at *
 generalize W.heap.size=p1 at *
 refine (mcnew_zero w1).mono ?_
 rintro e w2 ⟨rfl,c2⟩
 have r2:=c2.keep r1 (by simp)
 have o2:=old r2
 have C2:=Vh (C1.out.trans c2)
 clear c2 r1 C1
 go_wp2_with fail
 refine (macdo_nil a w2).mono ?_
 rintro e w3 ⟨rfl,c3⟩
 have r3:=c3.keep r2 (by simp)
 have o3:=old r3
 have C3:=Vh (C2.out.trans c3)
 clear c3 r2 o2 C2
 go_wp2_with fail
 have C4:=Vh (C3.out.alloc (.cells (acc a) 44))
 refine (mplay_nil a w3.heap.size _ (by simp)).mono ?_
 rintro e w5 ⟨rfl,c5⟩
 have C5:=Vh (C4.out.trans c5)
 clear c5 r3 o3 C3 C4
 go_wp2_with (first
  |(go_at_call 21;refine (msystem_nil _).mono ?_;rintro e w' ⟨rfl,rfl⟩)
  |(go_at_call 26;refine (mcore_nil _ _).mono ?_;rintro e w' ⟨rfl,rfl⟩)
  |(go_at_call 23;refine (mquiet_nil _).mono ?_;rintro e w' ⟨rfl,rfl⟩)
  |(go_at_call 27;refine (mfails_nil _).mono ?_;rintro e w' ⟨rfl,rfl⟩))
 refine (mwakes15 _ (⟨HT.out.1.keep C5.out (by simp),HT.out.2.keep C5.out (by simp)⟩)).mono ?_
 rintro e w6 ⟨rfl,c6⟩
 go_wp2_with fail
 go_ret
 exact ⟨rfl,C5.out.trans c6⟩
end
end Go.Proofs.YtcgjofbkcgedfaaGreatDoor
