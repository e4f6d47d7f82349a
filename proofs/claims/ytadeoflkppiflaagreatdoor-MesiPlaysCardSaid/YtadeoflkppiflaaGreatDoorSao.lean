/- Texts of the walk, one behind the other: Mgf Mgh Mgj Mey2 Mgm. No condition. -/
import Derived.Test.YtadeoflkppiflaaGreatDoorSaa
import Derived.Test.YtadeoflkppiflaaGreatDoorSab
import Derived.Test.YtadeoflkppiflaaGreatDoorSak
import Derived.Test.YtadeoflkppiflaaGreatDoorSal
import Derived.Test.YtadeoflkppiflaaGreatDoorSan
import Derived.BigQuiet
import Derived.ChangeKeysEq
import Derived.Deep.Cut
import Derived.Deep.CutBlock
import Derived.Deep.CutRange
import Derived.Deep.DeepCutAuto
import Derived.Deep.QuietTactic
import Derived.Deep.RegionHeld3
import Derived.Deep.RegionWith
import Derived.LaidMore
import Derived.Laws.StructEq
import Derived.SevenTiedAt
import Derived.Test.YtadeoflkppiflaaGreatDoorCards
import Derived.Test.YtadeoflkppiflaaGreatDoorTie
namespace Go.Proofs.YtadeoflkppiflaaGreatDoor
open Go.RowKit
set_option linter.unusedVariables false
set_option maxHeartbeats 1000000
section
def MTS (W w:World) (c:Cg) (sy:Nat) (F:List Nat) (S:Mst) (w':World):Prop:=MemTo W w c sy F S.ps S.en S.es S.xs w'
def MS (W w:World) (c:Cg) (sy:Nat) (F:List Nat) (S:Mst):Prop:=Mem W w c sy F S.ps S.en S.es S.xs
theorem Inv.dnB {c:Cg} {n:Nat} {S:Mst} {cur:Nat→List Int} (h:Inv c n S cur):∀x∈S.ps,x.dn.length≤n:=by
 intro x hx
 obtain ⟨j,hj⟩:=List.getElem?_of_mem hx
 have hjl:=(Vg hj).1
 have:=(h.pt j (by rw [←h.co];exact hjl)).dn
 rw [Y3 hj] at this
 exact this
theorem Qb9 (o:Mk) (a:Ms):(Xf o a).length≤8:=by
 unfold Xf Jb
 rw [List.length_map]
 exact Qb1 o 8
theorem Qfq {o:Mk} {a:Ms} {co:Nat} (ho:∀j:Nat,j<8→hasM o j=true→j<co) (ha:mg a=true):∀d∈Xf o a,0≤d.to∧d.to<co∧mg d.m=true:=by
 intro d hd
 obtain ⟨h1,h2⟩:=Qfp hd
 obtain ⟨j,hj,he⟩:=Y6 (has_isC h1)
 rw [he] at h1
 have:=ho j hj h1
 exact ⟨by omega,by omega,by rw [h2];exact ha⟩
section
variable {W w:World} {c:Cg} {sy n:Nat} {F:List Nat} {S:Mst} {cur:Nat→List Int} (hm:MS W w c sy F S) (hI:Inv c n S cur)
include hm
theorem MS.same {w':World} (hc:Chg [] w w'):MTS W w c sy F S w':=Mem.stay hm hc
include hI
theorem yload (hn:n≤900) (hT:Tabs W) (k li wd:Int):
 Calls Tryz.prog 28 #[.pointer (some ⟨sy,0,none⟩),.int .i64 k,.int .i64 li,.int .i64 wd] w fun e w'=>e=.returned (.tuple #[.int .u64 (loadM c S k li wd).2.v,.bool (loadM c S k li wd).2.hit])∧MTS W w c sy F (loadM c S k li wd).1 w':=by
 unfold loadM
 cases hp:XL c S k with
 |none=>exact (mload_no hm k li wd (hI.portNone hp)).mono fun e w' h=>⟨h.1,MS.same hm (h.2▸Chg.refl [] w)⟩
 |some x=>
  obtain ⟨j,rfl,hj,hx,_,hP,_⟩:=hI.port hp
  have hus:x.s.2≤1000000000:=by have:=hP.us;omega
  have hq:x.up.length<1000:=by have:=hP.up;omega
  have h64:=hI.ok.li64
  dsimp only
  by_cases hl:inB li c.li=true
  ·rw [if_pos hl]
   obtain ⟨_,b,_⟩:=hP.aj.loadF (XW.1 hl).2 wd
   exact mload_ok hm j li wd x hx hT.1 hl hus hq (b.msgs h64).2 (b.msgs h64).1
  ·rw [if_neg hl]
   exact (mload_off hm j li wd hj (by simpa using hl)).mono fun e w' h=>⟨h.1,MS.same hm (h.2▸Chg.refl [] w)⟩
theorem ystore (hn:n≤900) (hT:Tabs W) (k li wd v:Int):
 Calls Tryz.prog 34 #[.pointer (some ⟨sy,0,none⟩),.int .i64 k,.int .i64 li,.int .i64 wd,.int .u64 v] w fun e w'=>e=.returned (.bool (storeM c S k li wd v).2.hit)∧MTS W w c sy F (storeM c S k li wd v).1 w':=by
 unfold storeM
 cases hp:XL c S k with
 |none=>exact (mstore_no hm k li wd v (hI.portNone hp)).mono fun e w' h=>⟨h.1,MS.same hm (h.2▸Chg.refl [] w)⟩
 |some x=>
  obtain ⟨j,rfl,hj,hx,_,hP,_⟩:=hI.port hp
  have hus:x.s.2≤1000000000:=by have:=hP.us;omega
  have hq:x.up.length<1000:=by have:=hP.up;omega
  have h64:=hI.ok.li64
  dsimp only
  by_cases hl:inB li c.li=true
  ·rw [if_pos hl]
   have hms:(storeF c.se c.wa x.s li wd v).2.2.length≤1∧∀m∈(storeF c.se c.wa x.s li wd v).2.2,mg m=true:=by
    obtain ⟨_,⟨_,_,_,_,b4,_,_⟩|⟨_,b2⟩⟩:=hP.aj.storeF (XW.1 hl).2 wd v
    ·rw [b4];exact ⟨Nat.zero_le _,fun m hm=>by cases hm⟩
    ·exact b2.msgs h64
   exact Qgi hm j li wd v x hx hT.1 hl hus hq hms.2 hms.1
  ·rw [if_neg hl]
   exact (mstore_off hm j li wd v hj (by simpa using hl)).mono fun e w' h=>⟨h.1,MS.same hm (h.2▸Chg.refl [] w)⟩
theorem yreach (hn:n≤900) (hT:Tabs W) (k li:Int):
 Calls Tryz.prog 49 #[.pointer (some ⟨sy,0,none⟩),.int .i64 k,.int .i64 li] w fun e w'=>e=.returned (.bool (reachM c S k li).2.hit)∧MTS W w c sy F (reachM c S k li).1 w':=by
 unfold reachM
 cases hp:XL c S k with
 |none=>exact (mreach_no hm k li (hI.portNone hp)).mono fun e w' h=>⟨h.1,MS.same hm (h.2▸Chg.refl [] w)⟩
 |some x=>
  obtain ⟨j,rfl,hj,hx,_,hP,_⟩:=hI.port hp
  have hus:x.s.2≤1000000000:=by have:=hP.us;omega
  have hq:x.up.length<1000:=by have:=hP.up;omega
  have h64:=hI.ok.li64
  dsimp only
  by_cases hl:inB li c.li=true
  ·rw [if_pos hl]
   by_cases ho:JN x.s.1 li=true
   ·rw [if_pos ho]
    exact (mreach_own hm j li x hx hl ho).mono fun e w' h=>⟨h.1,MS.same hm h.2⟩
   ·rw [if_neg ho]
    obtain ⟨_,b⟩:=hP.aj.reachF (XW.1 hl).2
    exact mreach_ok hm j li x hx hT.1 hl (by simpa using ho) hus hq (b.msgs h64).2 (b.msgs h64).1
  ·rw [if_neg hl]
   exact (mreach_off hm j li hj (by simpa using hl)).mono fun e w' h=>⟨h.1,MS.same hm (h.2▸Chg.refl [] w)⟩
theorem yevict (hn:n≤900) (hT:Tabs W) (k li:Int):
 Calls Tryz.prog 32 #[.pointer (some ⟨sy,0,none⟩),.int .i64 k,.int .i64 li] w fun e w'=>e=.returned (.int .i64 (evictM c S k li).2.e)∧MTS W w c sy F (evictM c S k li).1 w':=by
 unfold evictM
 cases hp:XL c S k with
 |none=>exact (mevict_no hm k li (hI.portNone hp)).mono fun e w' h=>⟨h.1,MS.same hm (h.2▸Chg.refl [] w)⟩
 |some x=>
  obtain ⟨j,rfl,hj,hx,_,hP,_⟩:=hI.port hp
  have hus:x.s.2≤1000000000:=by have:=hP.us;omega
  have hq:x.up.length<1000:=by have:=hP.up;omega
  have h64:=hI.ok.li64
  dsimp only
  by_cases hl:inB li c.li=true
  ·rw [if_pos hl]
   obtain ⟨_,b⟩:=hP.aj.evictF li
   exact mevict_ok hm j li x hx hT.1 hl hus hq (b.msgs h64).2 (b.msgs h64).1
  ·rw [if_neg hl]
   exact (mevict_off hm j li hj (by simpa using hl)).mono fun e w' h=>⟨h.1,MS.same hm (h.2▸Chg.refl [] w)⟩
theorem yflush (hn:n≤900) (hT:Tabs W) (k li kd:Int):
 Calls Tryz.prog 30 #[.pointer (some ⟨sy,0,none⟩),.int .i64 k,.int .i64 li,.int .i64 kd] w fun e w'=>e=.returned (.int .i64 (flushM c S k li kd).2.e)∧MTS W w c sy F (flushM c S k li kd).1 w':=by
 unfold flushM
 cases hp:XL c S k with
 |none=>exact (mflush_no hm k li kd (hI.portNone hp)).mono fun e w' h=>⟨h.1,MS.same hm (h.2▸Chg.refl [] w)⟩
 |some x=>
  obtain ⟨j,rfl,hj,hx,_,hP,_⟩:=hI.port hp
  have hus:x.s.2≤1000000000:=by have:=hP.us;omega
  have hq:x.up.length<1000:=by have:=hP.up;omega
  have h64:=hI.ok.li64
  dsimp only
  by_cases hl:inB li c.li=true
  ·by_cases hk:kd=4∨kd=5
   ·rw [if_pos ⟨hl,hk⟩]
    have hmg:=(hI.flush hj hx hl hk).2
    rcases hk with rfl|rfl
    ·exact mflush_4 hm j li x hx hT.1 hl hq hmg
    ·exact mflush_5 hm j li x hx hT.1 hl hq hmg
   ·rw [if_neg (fun h=>hk h.2)]
    exact (mflush_kind hm j li kd hj hl (fun h=>hk (.inl h)) (fun h=>hk (.inr h))).mono fun e w' h=>⟨h.1,MS.same hm (h.2▸Chg.refl [] w)⟩
  ·rw [if_neg (fun h=>hl h.1)]
   exact (mflush_off hm j li kd hj (by simpa using hl)).mono fun e w' h=>⟨h.1,MS.same hm (h.2▸Chg.refl [] w)⟩
theorem yup (hn:n≤900) (hT:Tabs W) (k:Int):
 Calls Tryz.prog 35 #[.pointer (some ⟨sy,0,none⟩),.int .i64 k] w fun e w'=>e=.returned (.int .i64 (upM c S k).2.e)∧MTS W w c sy F (upM c S k).1 w':=by
 unfold upM
 cases hp:XL c S k with
 |none=>exact (mup_no hm k (hI.portNone hp)).mono fun e w' h=>⟨h.1,MS.same hm (h.2▸Chg.refl [] w)⟩
 |some x=>
  obtain ⟨j,rfl,hj,hx,_,hP,_⟩:=hI.port hp
  have hus:x.s.2≤1000000000:=by have:=hP.us;omega
  have hq:x.up.length<1000:=by have:=hP.up;omega
  have h64:=hI.ok.li64
  dsimp only
  cases hu:x.up with
  |nil=>exact (mup_none hm j x hx hu).mono fun e w' h=>⟨h.1,MS.same hm h.2⟩
  |cons m rest=>
   obtain ⟨i,e,hi,hic,he,hc⟩:=hI.up hj hx hu
   have ei:i=m.li.toNat:=by omega
   subst ei
   dsimp only
   rw [he]
   dsimp only
   have hX:ln (over S.xs S.es) m.li.toNat=lnG S.X m.li.toNat:=(lnG_eq (hI.ln8 hic)).symm
   rcases hc with ⟨_,h2⟩|⟨_,o,a,e',h2,h3,h4,_⟩
   ·rw [h2,if_neg (by decide)]
    refine (mup_go hm j m.li.toNat x hx m rest e enZ (lnG S.X m.li.toNat) (Qai _ _) [] 15 hT.1 hu (by omega) hi he hX h2 (fun d hd=>by cases hd) n hI.dnB (by show n+0≤1000;omega)).mono fun r w' hr=>?_
    rcases hr with ⟨_,q2,q3⟩|⟨q1,_⟩
    ·exact ⟨q2,q3⟩
    ·exact absurd q1 (by decide)
   ·rw [h2,if_pos rfl]
    refine (mup_go hm j m.li.toNat x hx m rest e e' (lnG S.X m.li.toNat) (Qai _ _) (Xf o a) 0 hT.1 hu (by omega) hi he hX h2 (Qfq h4 h3.1) n hI.dnB (by have:=Qb9 o a;omega)).mono fun r w' hr=>?_
    exact Tz148
theorem yanswer (hn:n≤900) (hT:Tabs W) (k:Int):
 Calls Tryz.prog 37 #[.pointer (some ⟨sy,0,none⟩),.int .i64 k] w fun e w'=>e=.returned (.int .i64 (answerM c S k).2.e)∧MTS W w c sy F (answerM c S k).1 w':=by
 unfold answerM
 cases hp:XL c S k with
 |none=>exact (manswer_no hm k (hI.portNone hp)).mono fun e w' h=>⟨h.1,MS.same hm (h.2▸Chg.refl [] w)⟩
 |some x=>
  obtain ⟨j,rfl,hj,hx,_,hP,_⟩:=hI.port hp
  have hus:x.s.2≤1000000000:=by have:=hP.us;omega
  have hq:x.up.length<1000:=by have:=hP.up;omega
  have h64:=hI.ok.li64
  dsimp only
  cases hu:x.an with
  |nil=>
   refine (manswer_none hm j x hx hu).mono fun e w' h=>⟨h.1,?_⟩
   have e1:S.ps.set j {x with an:=[]}=S.ps:=by
    have:({x with an:=[]}:Pt)=x:=by rw [←hu]
    rw [this]
    obtain ⟨h1,h2⟩:=Vg hx
    rw [←h2];exact List.set_getElem_self h1
   have h2:=h.2
   rw [e1] at h2
   exact h2
  |cons m rest=>
   obtain ⟨i,e,hi,hic,he,o,a,e',h2,h3,h4,_⟩:=hI.answer hj hx hu
   have ei:i=m.li.toNat:=by omega
   subst ei
   dsimp only
   rw [he]
   dsimp only
   rw [h2,if_pos rfl]
   refine (manswer_go hm j m.li.toNat x hx m rest e e' (Xf o a) 0 hT.1 hu (by have:=hP.an;omega) hi he h2 (Qfq h4 h3.1) n hI.dnB (by have:=Qb9 o a;omega)).mono fun r w' hr=>?_
   exact Tz148
theorem yhear (hn:n≤900) (hT:Tabs W) (k:Int):
 Calls Tryz.prog 36 #[.pointer (some ⟨sy,0,none⟩),.int .i64 k] w fun e w'=>e=.returned (.tuple #[.agg (msc (hearM c S k).2.m),.int .i64 (hearM c S k).2.e])∧MTS W w c sy F (hearM c S k).1 w':=by
 unfold hearM
 cases hp:XL c S k with
 |none=>exact (mhear_no hm k (hI.portNone hp)).mono fun e w' h=>⟨h.1,MS.same hm h.2⟩
 |some x=>
  obtain ⟨j,rfl,hj,hx,_,hP,_⟩:=hI.port hp
  have hus:x.s.2≤1000000000:=by have:=hP.us;omega
  have hq:x.up.length<1000:=by have:=hP.up;omega
  have h64:=hI.ok.li64
  dsimp only
  cases hu:x.dn with
  |nil=>
   refine (mhear_none hm j x hx hu).mono fun e w' h=>⟨h.1,?_⟩
   have e1:S.ps.set j {x with dn:=[]}=S.ps:=by
    have:({x with dn:=[]}:Pt)=x:=by rw [←hu]
    rw [this]
    obtain ⟨h1,h2⟩:=Vg hx
    rw [←h2];exact List.set_getElem_self h1
   have h2:=h.2
   rw [e1] at h2
   exact h2
  |cons m rest=>
   obtain ⟨_,h2,h3,h4,_⟩:=hI.hear hj hx hu
   dsimp only
   rw [if_pos h2]
   refine (mhear_go hm j x hx m rest (hearF c.se c.wa x.s m).1 (hearF c.se c.wa x.s m).2.1 0 hT hu (by have:=hP.dn;omega) hus (by rw [←h2]) h3 (by have:=hP.an;omega) h4).mono fun r w' hr=>?_
   exact Tz148
theorem ypush (hn:n≤900) (hT:Tabs W) (li:Int):
 Calls Tryz.prog 50 #[.pointer (some ⟨sy,0,none⟩),.int .i64 li] w fun e w'=>e=.returned (.int .i64 (pushM c S li).2.e)∧MTS W w c sy F (pushM c S li).1 w':=by
 unfold pushM
 by_cases hl:inB li c.li=true
 ·rw [if_pos hl]
  obtain ⟨l0,ln⟩:=XW.1 hl
  obtain ⟨i,rfl⟩:∃i:Nat,li=(i:Int):=⟨li.toNat,by omega⟩
  rw [Int.toNat_natCast]
  have hic:i<c.li:=by omega
  obtain ⟨e,he,_⟩:=hI.entry hic
  rw [he]
  dsimp only
  by_cases hr:Yb e=true
  ·rw [if_pos hr]
   obtain ⟨p1,p2,p3,_⟩:=hI.push hic he hr
   have hg:=mpush_go hm i e hT.1 he hr p1 p2 p3 (YX c S.es i e) rfl (Ya c S.es i e) rfl n hI.dnB (by omega)
   by_cases hv:YX c S.es i e=0
   ·rw [if_pos hv]
    refine hg.mono fun r w' h=>?_
    rcases h with ⟨q1,_⟩|⟨_,q2,q3⟩
    ·exact absurd hv q1
    ·refine ⟨q2,?_⟩
     rw [←YB p1] at q3
     exact q3
   ·rw [if_neg hv]
    refine hg.mono fun r w' h=>?_
    rcases h with ⟨_,q2,q3⟩|⟨q1,_⟩
    ·exact ⟨q2,q3⟩
    ·exact absurd q1 hv
  ·rw [if_neg hr]
   exact (mpush_wait hm i e hT.1 he (by simpa using hr)).mono fun e w' h=>⟨h.1,MS.same hm h.2⟩
 ·rw [if_neg hl]
  exact (mpush_off hm li (by simpa using hl)).mono fun e w' h=>⟨h.1,MS.same hm (h.2▸Chg.refl [] w)⟩
theorem ydrop (hn:n≤900) (hT:Tabs W) (li:Int):
 Calls Tryz.prog 31 #[.pointer (some ⟨sy,0,none⟩),.int .i64 li] w fun e w'=>e=.returned (.int .i64 (dropM c S li).2.e)∧MTS W w c sy F (dropM c S li).1 w':=by
 unfold dropM
 by_cases hl:inB li c.li=true
 ·rw [if_pos hl]
  obtain ⟨l0,ln⟩:=XW.1 hl
  obtain ⟨i,rfl⟩:∃i:Nat,li=(i:Int):=⟨li.toNat,by omega⟩
  rw [Int.toNat_natCast]
  have hic:i<c.li:=by omega
  obtain ⟨e,he,_⟩:=hI.entry hic
  rw [he]
  dsimp only
  by_cases hr:Jt e=true
  ·rw [if_pos hr]
   exact (mdrop_kept hm i e he hr).mono fun e w' h=>⟨h.1,MS.same hm h.2⟩
  ·rw [if_neg hr]
   have hg:=mdrop_go hm i e hT.1 he (by simpa using hr) (YX c S.es i e) rfl (Ya c S.es i e) rfl n hI.dnB (by omega)
   by_cases hv:YX c S.es i e=0
   ·rw [if_pos hv]
    refine hg.mono fun r w' h=>?_
    rcases h with ⟨q1,_⟩|⟨_,q2,q3⟩
    ·exact absurd hv q1
    ·exact ⟨q2,q3⟩
   ·rw [if_neg hv]
    refine hg.mono fun r w' h=>?_
    rcases h with ⟨_,q2,q3⟩|⟨q1,_⟩
    ·exact ⟨q2,q3⟩
    ·exact absurd q1 hv
 ·rw [if_neg hl]
  exact (mdrop_off hm li (by simpa using hl)).mono fun e w' h=>⟨h.1,MS.same hm (h.2▸Chg.refl [] w)⟩
theorem ydrain (hn:n≤900) (hT:Tabs W) (li:Int):
 Calls Tryz.prog 51 #[.pointer (some ⟨sy,0,none⟩),.int .i64 li] w fun e w'=>e=.returned (.int .i64 (drainM c S li).2.e)∧MTS W w c sy F (drainM c S li).1 w':=by
 unfold drainM
 have _hI:=hI
 by_cases hl:inB li c.li=true
 ·rw [if_pos hl]
  exact mdrain_ok hm li hl
 ·rw [if_neg hl]
  exact (mdrain_off hm li (by simpa using hl)).mono fun e w' h=>⟨h.1,MS.same hm (h.2▸Chg.refl [] w)⟩
theorem yfail:Calls Tryz.prog 22 #[.pointer (some ⟨sy,0,none⟩)] w fun e w'=>e=.returned (.tuple #[])∧MTS W w c sy F (failM c S) w':=mfail_ok hm hI.ok
end
end
section
set_option maxRecDepth 100000
attribute [local go_sem ↓] QA QQ QH Q8 QS QC Za QN Zs Zh Qm Ql heap_alloc Qo heap_setCell Qb ZF Z4 Z5 Z3 Zc ZB Zk ZI Zv ZM ZK ZN ZL
attribute [local go_sem] Qc Qa Qd Qj Qf Qe Qh Qi Qw ZE QZ Zq QO QG Q6 Q0 Q5 Zi Q9 QM QB QI Zj Q7 Qz QP Qt Qk Qs Qr Qq Qp Qg Zb Ze lit8 QF ZG Zr Zt ZC Zd Zy ZH Zz Qv ZA Zl Zm QE QD QR ZO
attribute [local simp ↓] Qm Ql heap_alloc Qo heap_setCell Qb
attribute [local simp] Qc Qa Qd Qj Qf Qe Qh Qi Qw QB Qk Qs Qr Qq Qp Qg QF Qv QE QD QR QI
attribute [local go_sem ↓] XP XQ XO XN XS XR XM XZ
attribute [local go_sem] Xi XV Xh ZR ZT QL Xp ZZ X3 Zw QW QV QU QY QX QT QK QJ Zg Zf Xm ZW
attribute [local simp] QL Zf QW QV QU QY QX QT QK QJ Zg
attribute [local go_sem ↓] Xo ZV Xn ZU Z0
attribute [local go_sem] Xk Xj ZY Xl Qx Qy Z6
attribute [local simp] Z0 Qx Qy QI Zw
attribute [local go_sem ↓] Xg Yh Yi Y8
attribute [local simp] Xg
attribute [local go_sem ↓] Qgn mstc_0 mstc_1 mstc_2 mstc_3 mstc_4
attribute [local go_sem] Qf2 Qd4
theorem MTS.wrap {W w w1 w5 w6:World} {c:Cg} {sy:Nat} {F:List Nat} {S:Mst} (hW:W.heap.size≤w.heap.size) (hF:∀k∈F,k<w.heap.size) (hc:Chg [] w w1) (h:MTS W w1 c sy F S w5) (l:List Nat) (hl:∀b∈l,w.heap.size≤b∧(b<w1.heap.size∨w5.heap.size≤b)) (hc2:Chg l w5 w6):MTS W w c sy F S w6:=by
 exact Tz59
theorem do_0 (x:MStp) (hk:x.kd=0) {W w:World} {c:Cg} {sy:Nat} {F:List Nat} {S:Mst} (hW:W.heap.size≤w.heap.size) (hF:∀k∈F,k<w.heap.size) (dv:Int) (dh:Bool) (HC:∀w1,Chg [] w w1→Calls Tryz.prog 28 #[.pointer (some ⟨sy,0,none⟩),.int .i64 x.co,.int .i64 x.li,.int .i64 x.wd] w1 fun e w'=>e=.returned (.tuple #[.int .u64 dv,.bool dh])∧MTS W w1 c sy F S w'):
 Calls Tryz.prog 14 #[.pointer (some ⟨sy,0,none⟩),.agg (mstc x)] w fun e w'=>e=.returned (.tuple #[.int .u64 dv,.bool dh,.agg (msc msZ),.int .i64 0])∧MTS W w c sy F S w':=by
 have s0:(x.kd==0)=true:=by simp;omega
 have HH:=Vh HC
 have HF:=Vh hF
 have HW:=Vh hW
 clear hk HC hF hW
 go_enter Tryz.func14,Tryz.ntmps14
 try dsimp only [List.append]
 go_wp2_with fail
 have r0:((w.alloc (.cells (mstc x) 42)).alloc (.cells (msc msZ) 38)).heap[w.heap.size+1]? =some (.cells (msc msZ) 38 (0,0)):=by simp
 have C2:=Vh (((Chg.refl [] w).alloc (.cells (mstc x) 42)).alloc (.cells (msc msZ) 38))
 have Z2:=Vh (show ((w.alloc (.cells (mstc x) 42)).alloc (.cells (msc msZ) 38)).heap.size=w.heap.size+2 by simp)
 refine (HH.out _ C2.out).mono ?_
 rintro e w5 ⟨rfl,m5⟩
 have M5:=Vh m5
 replace r0:=m5.choose_spec.2.1.keep r0 (fun h=>by have:=HF.out _ h;omega)
 have o0:=old r0
 generalize hb:w.heap.size+1=b at r0 o0 ⊢
 have HB:=Vh hb
 clear hb m5
 go_wp2_with fail
 refine bodyPost_ret (v:=.tuple #[.int .u64 dv,.bool dh,.agg (msc msZ),.int .i64 0]) ?_ (by rfl) ?_
 ·exact X9 (by rfl) _ _ b msZ (0,0) (by rfl) Cz5 _ _ _ (by rfl) (by rfl) (by rfl)
 ·refine ⟨rfl,MTS.wrap HW.out HF.out C2.out M5.out [b] (fun q hq=>?_) Cz6⟩
  exact Tz58
theorem do_1 (x:MStp) (hk:x.kd=1) {W w:World} {c:Cg} {sy:Nat} {F:List Nat} {S:Mst} (hW:W.heap.size≤w.heap.size) (hF:∀k∈F,k<w.heap.size) (dh:Bool) (HC:∀w1,Chg [] w w1→Calls Tryz.prog 34 #[.pointer (some ⟨sy,0,none⟩),.int .i64 x.co,.int .i64 x.li,.int .i64 x.wd,.int .u64 x.v] w1 fun e w'=>e=.returned (.bool dh)∧MTS W w1 c sy F S w'):
 Calls Tryz.prog 14 #[.pointer (some ⟨sy,0,none⟩),.agg (mstc x)] w fun e w'=>e=.returned (.tuple #[.int .u64 0,.bool dh,.agg (msc msZ),.int .i64 0])∧MTS W w c sy F S w':=by
 have s0:(x.kd==0)=false:=by simp;omega
 have s1:(x.kd==1)=true:=by simp;omega
 exact Tz27
theorem do_2 (x:MStp) (hk:x.kd=2) {W w:World} {c:Cg} {sy:Nat} {F:List Nat} {S:Mst} (hW:W.heap.size≤w.heap.size) (hF:∀k∈F,k<w.heap.size) (dh:Bool) (HC:∀w1,Chg [] w w1→Calls Tryz.prog 49 #[.pointer (some ⟨sy,0,none⟩),.int .i64 x.co,.int .i64 x.li] w1 fun e w'=>e=.returned (.bool dh)∧MTS W w1 c sy F S w'):
 Calls Tryz.prog 14 #[.pointer (some ⟨sy,0,none⟩),.agg (mstc x)] w fun e w'=>e=.returned (.tuple #[.int .u64 0,.bool dh,.agg (msc msZ),.int .i64 0])∧MTS W w c sy F S w':=by
 have s0:(x.kd==0)=false:=by simp;omega
 have s1:(x.kd==1)=false:=by simp;omega
 have s2:(x.kd==2)=true:=by simp;omega
 exact Tz27
theorem do_3 (x:MStp) (hk:x.kd=3) (hv:0≤x.v) {W w:World} {c:Cg} {sy:Nat} {F:List Nat} {S:Mst} (hW:W.heap.size≤w.heap.size) (hF:∀k∈F,k<w.heap.size) (de:Int) (HC:∀w1,Chg [] w w1→Calls Tryz.prog 30 #[.pointer (some ⟨sy,0,none⟩),.int .i64 x.co,.int .i64 x.li,.int .i64 (4+x.v % 2)] w1 fun e w'=>e=.returned (.int .i64 de)∧MTS W w1 c sy F S w'):
 Calls Tryz.prog 14 #[.pointer (some ⟨sy,0,none⟩),.agg (mstc x)] w fun e w'=>e=.returned (.tuple #[.int .u64 0,.bool false,.agg (msc msZ),.int .i64 de])∧MTS W w c sy F S w':=by
 have s0:(x.kd==0)=false:=by simp;omega
 have s1:(x.kd==1)=false:=by simp;omega
 have s2:(x.kd==2)=false:=by simp;omega
 have s3:(x.kd==3)=true:=by simp;omega
 have HH:=Vh HC
 have HF:=Vh hF
 have HW:=Vh hW
 have hvv:x.v % 2 % 18446744073709551616=x.v % 2:=by omega
 exact Tz2
theorem do_4 (x:MStp) (hk:x.kd=4) {W w:World} {c:Cg} {sy:Nat} {F:List Nat} {S:Mst} (hW:W.heap.size≤w.heap.size) (hF:∀k∈F,k<w.heap.size) (de:Int) (HC:∀w1,Chg [] w w1→Calls Tryz.prog 35 #[.pointer (some ⟨sy,0,none⟩),.int .i64 x.co] w1 fun e w'=>e=.returned (.int .i64 de)∧MTS W w1 c sy F S w'):
 Calls Tryz.prog 14 #[.pointer (some ⟨sy,0,none⟩),.agg (mstc x)] w fun e w'=>e=.returned (.tuple #[.int .u64 0,.bool false,.agg (msc msZ),.int .i64 de])∧MTS W w c sy F S w':=by
 have s0:(x.kd==0)=false:=by simp;omega
 have s1:(x.kd==1)=false:=by simp;omega
 have s2:(x.kd==2)=false:=by simp;omega
 have s3:(x.kd==3)=false:=by simp;omega
 have s4:(x.kd==4)=true:=by simp;omega
 exact Tz103
theorem do_5 (x:MStp) (hk:x.kd=5) {W w:World} {c:Cg} {sy:Nat} {F:List Nat} {S:Mst} (hW:W.heap.size≤w.heap.size) (hF:∀k∈F,k<w.heap.size) (de:Int) (HC:∀w1,Chg [] w w1→Calls Tryz.prog 37 #[.pointer (some ⟨sy,0,none⟩),.int .i64 x.co] w1 fun e w'=>e=.returned (.int .i64 de)∧MTS W w1 c sy F S w'):
 Calls Tryz.prog 14 #[.pointer (some ⟨sy,0,none⟩),.agg (mstc x)] w fun e w'=>e=.returned (.tuple #[.int .u64 0,.bool false,.agg (msc msZ),.int .i64 de])∧MTS W w c sy F S w':=by
 have s0:(x.kd==0)=false:=by simp;omega
 have s1:(x.kd==1)=false:=by simp;omega
 have s2:(x.kd==2)=false:=by simp;omega
 have s3:(x.kd==3)=false:=by simp;omega
 have s4:(x.kd==4)=false:=by simp;omega
 have s5:(x.kd==5)=true:=by simp;omega
 exact Tz103
theorem do_6 (x:MStp) (hk:x.kd=6) {W w:World} {c:Cg} {sy:Nat} {F:List Nat} {S:Mst} (hW:W.heap.size≤w.heap.size) (hF:∀k∈F,k<w.heap.size) (dm:Ms) (de:Int) (HC:∀w1,Chg [] w w1→Calls Tryz.prog 36 #[.pointer (some ⟨sy,0,none⟩),.int .i64 x.co] w1 fun e w'=>e=.returned (.tuple #[.agg (msc dm),.int .i64 de])∧MTS W w1 c sy F S w'):
 Calls Tryz.prog 14 #[.pointer (some ⟨sy,0,none⟩),.agg (mstc x)] w fun e w'=>e=.returned (.tuple #[.int .u64 0,.bool false,.agg (msc dm),.int .i64 de])∧MTS W w c sy F S w':=by
 have s0:(x.kd==0)=false:=by simp;omega
 have s1:(x.kd==1)=false:=by simp;omega
 have s2:(x.kd==2)=false:=by simp;omega
 have s3:(x.kd==3)=false:=by simp;omega
 have s4:(x.kd==4)=false:=by simp;omega
 have s5:(x.kd==5)=false:=by simp;omega
 have s6:(x.kd==6)=true:=by simp;omega
 have HH:=Vh HC
 have HF:=Vh hF
 have HW:=Vh hW
 clear hk HC hF hW
 go_enter Tryz.func14,Tryz.ntmps14
 try dsimp only [List.append]
 go_wp2_with fail
 have r0:((w.alloc (.cells (mstc x) 42)).alloc (.cells (msc msZ) 38)).heap[w.heap.size+1]? =some (.cells (msc msZ) 38 (0,0)):=by simp
 have C2:=Vh (((Chg.refl [] w).alloc (.cells (mstc x) 42)).alloc (.cells (msc msZ) 38))
 have Z2:=Vh (show ((w.alloc (.cells (mstc x) 42)).alloc (.cells (msc msZ) 38)).heap.size=w.heap.size+2 by simp)
 refine (HH.out _ C2.out).mono ?_
 rintro e w5 ⟨rfl,m5⟩
 have M5:=Vh m5
 replace r0:=m5.choose_spec.2.1.keep r0 (fun h=>by have:=HF.out _ h;omega)
 have o0:=old r0
 generalize hb:w.heap.size+1=b at r0 o0 ⊢
 have HB:=Vh hb
 clear hb m5
 go_wp2_with fail
 have ne5:b≠w5.heap.size:=by have:=o0.lt;omega
 have r1:(w5.alloc (.cells (msc dm) 38)).heap[b]? =some (.cells (msc msZ) 38 (0,0)):=((Chg.refl [] w5).alloc _).keep r0 Vn
 have r2:(w5.alloc (.cells (msc dm) 38)).heap[w5.heap.size]? =some (.cells (msc dm) 38 (0,0)):=Yr _ _
 have C6:=Vh ((Chg.refl [] w5).alloc (.cells (msc dm) 38))
 generalize hb5:w5.heap.size=b5 at r2 ne5 ⊢
 have HB5:=Vh hb5
 clear hb5
 generalize w5.alloc (.cells (msc dm) 38)=w6 at r1 r2 C6 ⊢
 clear r0 o0
 have o1:=old r1
 have o2:=old r2
 go_region
 all_goals
  go_wp2_with fail
  refine bodyPost_ret (v:=.tuple #[.int .u64 0,.bool false,.agg (msc dm),.int .i64 de]) ?_ (by rfl) ?_
  ·exact X9 (by rfl) _ _ b dm (0,0) (by rfl) (by rw [Qb _ _ _ _ _ (by rw [Qm,r1,Qv];rfl),if_pos rfl,Qm,r1];exact Qe _ _ _ _ (by rw [Qv,Qv])) _ _ _ (by rfl) (by rfl) (by rfl)
  ·refine ⟨rfl,MTS.wrap HW.out HF.out C2.out M5.out [b] (fun q hq=>?_) (by exact ((C6.out.mono (l':=[b]) (by simp)).drew).putRow _ _ _ (.inl (by simp)))⟩
   exact Tz58
theorem do_7 (x:MStp) (hk:x.kd=7) {W w:World} {c:Cg} {sy:Nat} {F:List Nat} {S:Mst} (hW:W.heap.size≤w.heap.size) (hF:∀k∈F,k<w.heap.size) (de:Int) (HC:∀w1,Chg [] w w1→Calls Tryz.prog 50 #[.pointer (some ⟨sy,0,none⟩),.int .i64 x.li] w1 fun e w'=>e=.returned (.int .i64 de)∧MTS W w1 c sy F S w'):
 Calls Tryz.prog 14 #[.pointer (some ⟨sy,0,none⟩),.agg (mstc x)] w fun e w'=>e=.returned (.tuple #[.int .u64 0,.bool false,.agg (msc msZ),.int .i64 de])∧MTS W w c sy F S w':=by
 have s0:(x.kd==0)=false:=by simp;omega
 have s1:(x.kd==1)=false:=by simp;omega
 have s2:(x.kd==2)=false:=by simp;omega
 have s3:(x.kd==3)=false:=by simp;omega
 have s4:(x.kd==4)=false:=by simp;omega
 have s5:(x.kd==5)=false:=by simp;omega
 have s6:(x.kd==6)=false:=by simp;omega
 have s7:(x.kd==7)=true:=by simp;omega
 exact Tz103
theorem do_8 (x:MStp) (hk:x.kd=8) {W w:World} {c:Cg} {sy:Nat} {F:List Nat} {S:Mst} (hW:W.heap.size≤w.heap.size) (hF:∀k∈F,k<w.heap.size) (de:Int) (HC:∀w1,Chg [] w w1→Calls Tryz.prog 32 #[.pointer (some ⟨sy,0,none⟩),.int .i64 x.co,.int .i64 x.li] w1 fun e w'=>e=.returned (.int .i64 de)∧MTS W w1 c sy F S w'):
 Calls Tryz.prog 14 #[.pointer (some ⟨sy,0,none⟩),.agg (mstc x)] w fun e w'=>e=.returned (.tuple #[.int .u64 0,.bool false,.agg (msc msZ),.int .i64 de])∧MTS W w c sy F S w':=by
 have s0:(x.kd==0)=false:=by simp;omega
 have s1:(x.kd==1)=false:=by simp;omega
 have s2:(x.kd==2)=false:=by simp;omega
 have s3:(x.kd==3)=false:=by simp;omega
 have s4:(x.kd==4)=false:=by simp;omega
 have s5:(x.kd==5)=false:=by simp;omega
 have s6:(x.kd==6)=false:=by simp;omega
 have s7:(x.kd==7)=false:=by simp;omega
 have s8:(x.kd==8)=true:=by simp;omega
 exact Tz103
theorem do_9 (x:MStp) (hk:x.kd=9) {W w:World} {c:Cg} {sy:Nat} {F:List Nat} {S:Mst} (hW:W.heap.size≤w.heap.size) (hF:∀k∈F,k<w.heap.size) (de:Int) (HC:∀w1,Chg [] w w1→Calls Tryz.prog 31 #[.pointer (some ⟨sy,0,none⟩),.int .i64 x.li] w1 fun e w'=>e=.returned (.int .i64 de)∧MTS W w1 c sy F S w'):
 Calls Tryz.prog 14 #[.pointer (some ⟨sy,0,none⟩),.agg (mstc x)] w fun e w'=>e=.returned (.tuple #[.int .u64 0,.bool false,.agg (msc msZ),.int .i64 de])∧MTS W w c sy F S w':=by
 have s0:(x.kd==0)=false:=by simp;omega
 have s1:(x.kd==1)=false:=by simp;omega
 have s2:(x.kd==2)=false:=by simp;omega
 have s3:(x.kd==3)=false:=by simp;omega
 have s4:(x.kd==4)=false:=by simp;omega
 have s5:(x.kd==5)=false:=by simp;omega
 have s6:(x.kd==6)=false:=by simp;omega
 have s7:(x.kd==7)=false:=by simp;omega
 have s8:(x.kd==8)=false:=by simp;omega
 have s9:(x.kd==9)=true:=by simp;omega
 exact Tz103
theorem do_10 (x:MStp) (hk:x.kd=10) {W w:World} {c:Cg} {sy:Nat} {F:List Nat} {S:Mst} (hW:W.heap.size≤w.heap.size) (hF:∀k∈F,k<w.heap.size) (de:Int) (HC:∀w1,Chg [] w w1→Calls Tryz.prog 51 #[.pointer (some ⟨sy,0,none⟩),.int .i64 x.li] w1 fun e w'=>e=.returned (.int .i64 de)∧MTS W w1 c sy F S w'):
 Calls Tryz.prog 14 #[.pointer (some ⟨sy,0,none⟩),.agg (mstc x)] w fun e w'=>e=.returned (.tuple #[.int .u64 0,.bool false,.agg (msc msZ),.int .i64 de])∧MTS W w c sy F S w':=by
 have s0:(x.kd==0)=false:=by simp;omega
 have s1:(x.kd==1)=false:=by simp;omega
 have s2:(x.kd==2)=false:=by simp;omega
 have s3:(x.kd==3)=false:=by simp;omega
 have s4:(x.kd==4)=false:=by simp;omega
 have s5:(x.kd==5)=false:=by simp;omega
 have s6:(x.kd==6)=false:=by simp;omega
 have s7:(x.kd==7)=false:=by simp;omega
 have s8:(x.kd==8)=false:=by simp;omega
 have s9:(x.kd==9)=false:=by simp;omega
 have s10:(x.kd==10)=true:=by simp;omega
 exact Tz103
theorem do_11 (x:MStp) (hk:x.kd=11) {W w:World} {c:Cg} {sy:Nat} {F:List Nat} {S:Mst} (hW:W.heap.size≤w.heap.size) (hF:∀k∈F,k<w.heap.size) (HC:∀w1,Chg [] w w1→Calls Tryz.prog 22 #[.pointer (some ⟨sy,0,none⟩)] w1 fun e w'=>e=.returned (.tuple #[])∧MTS W w1 c sy F S w'):
 Calls Tryz.prog 14 #[.pointer (some ⟨sy,0,none⟩),.agg (mstc x)] w fun e w'=>e=.returned (.tuple #[.int .u64 0,.bool false,.agg (msc msZ),.int .i64 0])∧MTS W w c sy F S w':=by
 have s0:(x.kd==0)=false:=by simp;omega
 have s1:(x.kd==1)=false:=by simp;omega
 have s2:(x.kd==2)=false:=by simp;omega
 have s3:(x.kd==3)=false:=by simp;omega
 have s4:(x.kd==4)=false:=by simp;omega
 have s5:(x.kd==5)=false:=by simp;omega
 have s6:(x.kd==6)=false:=by simp;omega
 have s7:(x.kd==7)=false:=by simp;omega
 have s8:(x.kd==8)=false:=by simp;omega
 have s9:(x.kd==9)=false:=by simp;omega
 have s10:(x.kd==10)=false:=by simp;omega
 have s11:(x.kd==11)=true:=by simp;omega
 have HH:=Vh HC
 have HF:=Vh hF
 have HW:=Vh hW
 clear hk HC hF hW
 go_enter Tryz.func14,Tryz.ntmps14
 try dsimp only [List.append]
 go_wp2_with fail
 have r0:((w.alloc (.cells (mstc x) 42)).alloc (.cells (msc msZ) 38)).heap[w.heap.size+1]? =some (.cells (msc msZ) 38 (0,0)):=by simp
 have C2:=Vh (((Chg.refl [] w).alloc (.cells (mstc x) 42)).alloc (.cells (msc msZ) 38))
 have Z2:=Vh (show ((w.alloc (.cells (mstc x) 42)).alloc (.cells (msc msZ) 38)).heap.size=w.heap.size+2 by simp)
 refine (HH.out _ C2.out).mono ?_
 rintro e w5 ⟨rfl,m5⟩
 have M5:=Vh m5
 replace r0:=m5.choose_spec.2.1.keep r0 (fun h=>by have:=HF.out _ h;omega)
 have o0:=old r0
 generalize hb:w.heap.size+1=b at r0 o0 ⊢
 have HB:=Vh hb
 clear hb m5
 go_wp2_with fail
 refine bodyPost_ret (v:=.tuple #[.int .u64 0,.bool false,.agg (msc msZ),.int .i64 0]) ?_ (by rfl) ?_
 ·exact X9 (by rfl) _ _ b msZ (0,0) (by rfl) Cz5 _ _ _ (by rfl) (by rfl) (by rfl)
 ·refine ⟨rfl,MTS.wrap HW.out HF.out C2.out M5.out [b] (fun q hq=>?_) Cz6⟩
  exact Tz58
theorem do_12 (x:MStp) (hk:(x.kd<0∨11<x.kd)) {W w:World} {c:Cg} {sy:Nat} {F:List Nat} {S:Mst} (hW:W.heap.size≤w.heap.size) (hF:∀k∈F,k<w.heap.size) (HC:∀w1,Chg [] w w1→MTS W w1 c sy F S w1):
 Calls Tryz.prog 14 #[.pointer (some ⟨sy,0,none⟩),.agg (mstc x)] w fun e w'=>e=.returned (.tuple #[.int .u64 0,.bool false,.agg (msc msZ),.int .i64 0])∧MTS W w c sy F S w':=by
 have s0:(x.kd==0)=false:=by simp;omega
 have s1:(x.kd==1)=false:=by simp;omega
 have s2:(x.kd==2)=false:=by simp;omega
 have s3:(x.kd==3)=false:=by simp;omega
 have s4:(x.kd==4)=false:=by simp;omega
 have s5:(x.kd==5)=false:=by simp;omega
 have s6:(x.kd==6)=false:=by simp;omega
 have s7:(x.kd==7)=false:=by simp;omega
 have s8:(x.kd==8)=false:=by simp;omega
 have s9:(x.kd==9)=false:=by simp;omega
 have s10:(x.kd==10)=false:=by simp;omega
 have s11:(x.kd==11)=false:=by simp;omega
 have HH:=Vh HC
 have HF:=Vh hF
 have HW:=Vh hW
 clear hk HC hF hW
 go_enter Tryz.func14,Tryz.ntmps14
 try dsimp only [List.append]
 go_wp2_with fail
 refine bodyPost_ret (v:=.tuple #[.int .u64 0,.bool false,.agg (msc msZ),.int .i64 0]) ?_ (by rfl) ?_
 ·exact X9 (by rfl) _ _ (w.heap.size+1) msZ (0,0) (by rfl) (by simp [*]) _ _ _ (by rfl) (by rfl) (by rfl)
 ·exact ⟨rfl,MTS.wrap HW.out HF.out (w1:=w) (Chg.refl _ _) (HH.out w (Chg.refl _ _)) [] (fun q hq=>by cases hq) Cz0⟩
section
variable (c:Cg) (S:Mst) (k li wd v kd:Int)
theorem Qd9:(loadM c S k li wd).2.m=msZ∧(loadM c S k li wd).2.e=0:=by
 unfold loadM;split
 ·exact ⟨rfl,rfl⟩
 ·split<;>exact ⟨rfl,rfl⟩
theorem storeM_did:(storeM c S k li wd v).2.v=0∧(storeM c S k li wd v).2.m=msZ∧(storeM c S k li wd v).2.e=0:=by
 unfold storeM;split
 ·exact ⟨rfl,rfl,rfl⟩
 ·split<;>exact ⟨rfl,rfl,rfl⟩
theorem reachM_did:(reachM c S k li).2.v=0∧(reachM c S k li).2.m=msZ∧(reachM c S k li).2.e=0:=by
 unfold reachM;split
 ·exact ⟨rfl,rfl,rfl⟩
 ·split
  ·split<;>exact ⟨rfl,rfl,rfl⟩
  ·exact ⟨rfl,rfl,rfl⟩
theorem flushM_did:(flushM c S k li kd).2.v=0∧(flushM c S k li kd).2.hit=false∧(flushM c S k li kd).2.m=msZ:=by
 unfold flushM;split
 ·exact ⟨rfl,rfl,rfl⟩
 ·split<;>exact ⟨rfl,rfl,rfl⟩
theorem evictM_did:(evictM c S k li).2.v=0∧(evictM c S k li).2.hit=false∧(evictM c S k li).2.m=msZ:=by
 unfold evictM;split
 ·exact ⟨rfl,rfl,rfl⟩
 ·split<;>exact ⟨rfl,rfl,rfl⟩
theorem upM_did:(upM c S k).2.v=0∧(upM c S k).2.hit=false∧(upM c S k).2.m=msZ:=by
 unfold upM;split
 ·exact ⟨rfl,rfl,rfl⟩
 ·split
  ·exact ⟨rfl,rfl,rfl⟩
  ·split
   ·exact ⟨rfl,rfl,rfl⟩
   ·split<;>exact ⟨rfl,rfl,rfl⟩
theorem Qg9:(answerM c S k).2.v=0∧(answerM c S k).2.hit=false∧(answerM c S k).2.m=msZ:=by
 unfold answerM;split
 ·exact ⟨rfl,rfl,rfl⟩
 ·split
  ·exact ⟨rfl,rfl,rfl⟩
  ·split
   ·exact ⟨rfl,rfl,rfl⟩
   ·split<;>exact ⟨rfl,rfl,rfl⟩
theorem hearM_did:(hearM c S k).2.v=0∧(hearM c S k).2.hit=false:=by
 unfold hearM;split
 ·exact ⟨rfl,rfl⟩
 ·split
  ·exact ⟨rfl,rfl⟩
  ·split<;>exact ⟨rfl,rfl⟩
theorem pushM_did:(pushM c S li).2.v=0∧(pushM c S li).2.hit=false∧(pushM c S li).2.m=msZ:=by
 unfold pushM;split
 ·split
  ·exact ⟨rfl,rfl,rfl⟩
  ·split
   ·split<;>exact ⟨rfl,rfl,rfl⟩
   ·exact ⟨rfl,rfl,rfl⟩
 ·exact ⟨rfl,rfl,rfl⟩
theorem dropM_did:(dropM c S li).2.v=0∧(dropM c S li).2.hit=false∧(dropM c S li).2.m=msZ:=by
 unfold dropM;split
 ·split
  ·exact ⟨rfl,rfl,rfl⟩
  ·split
   ·exact ⟨rfl,rfl,rfl⟩
   ·split<;>exact ⟨rfl,rfl,rfl⟩
 ·exact ⟨rfl,rfl,rfl⟩
theorem drainM_did:(drainM c S li).2.v=0∧(drainM c S li).2.hit=false∧(drainM c S li).2.m=msZ:=by
 unfold drainM;split<;>exact ⟨rfl,rfl,rfl⟩
end
def didV (d:MDid):Value:=.tuple #[.int .u64 d.v,.bool d.hit,.agg (msc d.m),.int .i64 d.e]
theorem do_any {W w:World} {c:Cg} {sy n:Nat} {F:List Nat} {S:Mst} {cur:Nat→List Int} (hm:MS W w c sy F S) (hI:Inv c n S cur) (hn:n≤900) (hT:Tabs W) (x:MStp) (hv:0≤x.v):
 Calls Tryz.prog 14 #[.pointer (some ⟨sy,0,none⟩),.agg (mstc x)] w fun e w'=>e=.returned (didV (stepM c S x.kd x.co x.li x.wd x.v).2)∧MTS W w c sy F (stepM c S x.kd x.co x.li x.wd x.v).1 w':=by
 have hW:W.heap.size≤w.heap.size:=(Mem.chg hm).size
 have hF:=Mem.old hm
 have hk:∀w1,Chg [] w w1→MS W w1 c sy F S:=fun w1 hc=>Mem.keep hm hc
 unfold stepM
 by_cases h0:x.kd=0
 ·rw [if_pos h0]
  have:=do_0 x h0 hW hF (loadM c S x.co x.li x.wd).2.v (loadM c S x.co x.li x.wd).2.hit (fun w1 hc=>yload (hk w1 hc) hI hn hT x.co x.li x.wd)
  unfold didV
  rw [(Qd9 c S x.co x.li x.wd).1,(Qd9 c S x.co x.li x.wd).2]
  exact this
 rw [if_neg h0]
 by_cases h1:x.kd=1
 ·rw [if_pos h1]
  have:=do_1 x h1 hW hF (storeM c S x.co x.li x.wd x.v).2.hit (fun w1 hc=>ystore (hk w1 hc) hI hn hT x.co x.li x.wd x.v)
  unfold didV
  obtain ⟨e1,e2,e3⟩:=storeM_did c S x.co x.li x.wd x.v
  rw [e1,e2,e3]
  exact this
 rw [if_neg h1]
 by_cases h2:x.kd=2
 ·rw [if_pos h2]
  have:=do_2 x h2 hW hF (reachM c S x.co x.li).2.hit (fun w1 hc=>yreach (hk w1 hc) hI hn hT x.co x.li)
  unfold didV
  obtain ⟨e1,e2,e3⟩:=reachM_did c S x.co x.li
  rw [e1,e2,e3]
  exact this
 rw [if_neg h2]
 by_cases h3:x.kd=3
 ·rw [if_pos h3]
  have:=do_3 x h3 hv hW hF (flushM c S x.co x.li (4+x.v % 2)).2.e (fun w1 hc=>yflush (hk w1 hc) hI hn hT x.co x.li (4+x.v % 2))
  unfold didV
  obtain ⟨e1,e2,e3⟩:=flushM_did c S x.co x.li (4+x.v % 2)
  rw [e1,e2,e3]
  exact this
 rw [if_neg h3]
 by_cases h4:x.kd=4
 ·rw [if_pos h4]
  have:=do_4 x h4 hW hF (upM c S x.co).2.e (fun w1 hc=>yup (hk w1 hc) hI hn hT x.co)
  unfold didV
  obtain ⟨e1,e2,e3⟩:=upM_did c S x.co
  rw [e1,e2,e3]
  exact this
 rw [if_neg h4]
 by_cases h5:x.kd=5
 ·rw [if_pos h5]
  have:=do_5 x h5 hW hF (answerM c S x.co).2.e (fun w1 hc=>yanswer (hk w1 hc) hI hn hT x.co)
  unfold didV
  obtain ⟨e1,e2,e3⟩:=Qg9 c S x.co
  rw [e1,e2,e3]
  exact this
 rw [if_neg h5]
 by_cases h6:x.kd=6
 ·rw [if_pos h6]
  have:=do_6 x h6 hW hF (hearM c S x.co).2.m (hearM c S x.co).2.e (fun w1 hc=>yhear (hk w1 hc) hI hn hT x.co)
  unfold didV
  obtain ⟨e1,e2⟩:=hearM_did c S x.co
  rw [e1,e2]
  exact this
 rw [if_neg h6]
 by_cases h7:x.kd=7
 ·rw [if_pos h7]
  have:=do_7 x h7 hW hF (pushM c S x.li).2.e (fun w1 hc=>ypush (hk w1 hc) hI hn hT x.li)
  unfold didV
  obtain ⟨e1,e2,e3⟩:=pushM_did c S x.li
  rw [e1,e2,e3]
  exact this
 rw [if_neg h7]
 by_cases h8:x.kd=8
 ·rw [if_pos h8]
  have:=do_8 x h8 hW hF (evictM c S x.co x.li).2.e (fun w1 hc=>yevict (hk w1 hc) hI hn hT x.co x.li)
  unfold didV
  obtain ⟨e1,e2,e3⟩:=evictM_did c S x.co x.li
  rw [e1,e2,e3]
  exact this
 rw [if_neg h8]
 by_cases h9:x.kd=9
 ·rw [if_pos h9]
  have:=do_9 x h9 hW hF (dropM c S x.li).2.e (fun w1 hc=>ydrop (hk w1 hc) hI hn hT x.li)
  unfold didV
  obtain ⟨e1,e2,e3⟩:=dropM_did c S x.li
  rw [e1,e2,e3]
  exact this
 rw [if_neg h9]
 by_cases h10:x.kd=10
 ·rw [if_pos h10]
  have:=do_10 x h10 hW hF (drainM c S x.li).2.e (fun w1 hc=>ydrain (hk w1 hc) hI hn hT x.li)
  unfold didV
  obtain ⟨e1,e2,e3⟩:=drainM_did c S x.li
  rw [e1,e2,e3]
  exact this
 rw [if_neg h10]
 by_cases h11:x.kd=11
 ·rw [if_pos h11]
  exact do_11 x h11 hW hF (fun w1 hc=>yfail (hk w1 hc) hI)
 rw [if_neg h11]
 exact do_12 x (by omega) hW hF (fun w1 hc=>MS.same (hk w1 hc) (Chg.refl _ _))
end
section
set_option maxRecDepth 100000
attribute [local go_sem ↓] QA QQ QH Q8 QS QC Za QN Zs Zh Qm Ql heap_alloc Qo heap_setCell Qb ZF Z4 Z5 Z3 Zc ZB Zk ZI Zv ZM ZK ZN ZL
attribute [local go_sem] Qc Qa Qd Qj Qf Qe Qh Qi Qw ZE QZ Zq QO QG Q6 Q0 Q5 Zi Q9 QM QB QI Zj Q7 Qz QP Qt Qk Qs Qr Qq Qp Qg Zb Ze lit8 QF ZG Zr Zt ZC Zd Zy ZH Zz Qv ZA Zl Zm QE QD QR ZO
attribute [local simp ↓] Qm Ql heap_alloc Qo heap_setCell Qb
attribute [local simp] Qc Qa Qd Qj Qf Qe Qh Qi Qw QB Qk Qs Qr Qq Qp Qg QF Qv QE QD QR QI
attribute [local go_sem ↓] XP XQ XO XN XS XR XM XZ
attribute [local go_sem] Xi XV Xh ZR ZT QL Xp ZZ X3 Zw QW QV QU QY QX QT QK QJ Zg Zf Xm ZW
attribute [local simp] QL Zf QW QV QU QY QX QT QK QJ Zg
attribute [local go_sem ↓] Xo ZV Xn ZU Z0
attribute [local go_sem] Xk Xj ZY Xl Qx Qy Z6
attribute [local simp] Z0 Qx Qy QI Zw
attribute [local go_sem ↓] Xg Yh Yi Y8
attribute [local simp] Xg
theorem storeMst (p x:Value):Instr.storeAt 42 p x=JW 42 5 p x:=rfl
def mstZ:MStp:=⟨0,0,0,0,0⟩
theorem mst_z0:(#[.int .i64 0,.int .i64 0,.int .i64 0,.int .i64 0,.int .u64 0]:Array Value)=mstc mstZ:=rfl
theorem cg_co0 (c:Cg):c.cells[0]? =some (.int .i64 c.co):=rfl
attribute [local go_sem ↓] mst_z0 storeMst Qgn mstc_0 mstc_1 mstc_2 mstc_3 mstc_4 Qea cg_li cg_vo cg_qu cg_co0
attribute [local simp] mst_z0
attribute [local go_sem] Qf2 Qdo Qem Qb2
theorem wf_u64v {v:Int} (h:(Lit.int .u64 v).wf=true):0≤v:=(bounds_u64 h).1
def kMst:List Kd:=[.int .i64,.int .i64,.int .i64,.int .i64,.int .u64]
theorem mstep_cellsV {w:World} {cs:List Value} (h:AreKd w kMst cs):∃x:MStp,cs=(mstc x).toList∧0≤x.v:=by
 obtain ⟨v0,c0,rfl,h0,hA⟩:=AreKd.head h
 obtain ⟨v1,c1,rfl,h1,hB⟩:=AreKd.head hA
 obtain ⟨v2,c2,rfl,h2,hC⟩:=AreKd.head hB
 obtain ⟨v3,c3,rfl,h3,hD⟩:=AreKd.head hC
 obtain ⟨v4,c4,rfl,h4,hE⟩:=AreKd.head hD
 obtain rfl:=AreKd.done hE
 simp only [IsKd] at h0 h1 h2 h3 h4
 obtain ⟨kd,rfl,_⟩:=h0
 obtain ⟨co,rfl,_⟩:=h1
 obtain ⟨li,rfl,_⟩:=h2
 obtain ⟨wd,rfl,_⟩:=h3
 obtain ⟨v,rfl,hv⟩:=h4
 refine ⟨⟨kd,co,li,wd,v⟩,rfl,?_⟩
 have:=wf_u64v hv
 exact this
theorem Tabs.keep0 {w w':World} (h:Tabs w) (hc:Chg [] w w'):Tabs w':=⟨h.1.keep hc (by simp),h.2.keep hc (by simp)⟩
theorem cg_of {c0 c1 c2 c3 c4 c5 c6:Int} (h:Ys c0 c1 c2 c3 c4 c5 c6=true):∃c:Cg,c.Ok∧c0=(c.co:Int)∧c1=(c.li:Int)∧c2=(c.vo:Int)∧c3=(c.se:Int)∧c4=(c.wa:Int)∧c5=(c.qu:Int)∧c6=(c.st:Int):=by
 unfold Ys at h
 have h:=of_decide_eq_true h
 refine ⟨⟨c0.toNat,c1.toNat,c2.toNat,c3.toNat,c4.toNat,c5.toNat,c6.toNat⟩,⟨?_,?_,?_,?_,?_,?_,?_,?_,?_,?_,?_⟩,?_,?_,?_,?_,?_,?_,?_⟩
 all_goals dsimp only
 all_goals first |omega|(unfold YQ;omega)
theorem mgood_false (c0 c1 c2 c3 c4 c5 c6:Int) (w:World) (h:Ys c0 c1 c2 c3 c4 c5 c6=false):Calls Tryz.prog 17 #[.agg #[.int .i64 c0,.int .i64 c1,.int .i64 c2,.int .i64 c3,.int .i64 c4,.int .i64 c5,.int .i64 c6]] w fun e w'=>e=.returned (.bool false)∧Chg [] w w':=by
 refine (Qf3 c0 c1 c2 c3 c4 c5 c6 w).mono ?_
 rintro e w' ⟨rfl,rfl⟩
 exact ⟨by rw [h],(Chg.refl [] w).alloc _⟩
theorem Qey (c:Cg) (hc:c.Ok) (w:World):Calls Tryz.prog 17 #[.agg c.cells] w fun e w'=>e=.returned (.bool true)∧Chg [] w w':=by
 refine (Qf3 c.co c.li c.vo c.se c.wa c.qu c.st w).mono ?_
 rintro e w' ⟨rfl,rfl⟩
 exact ⟨by rw [good_ok c hc],(Chg.refl [] w).alloc _⟩
theorem mstep_row {w:World} {o b n:Nat} {xs:List Value} (hA:Sl w 5 (some ⟨b,o,none⟩) n xs) {i:Nat} (hi:i<n) (hk:AreKd w kMst ((xs.drop (i*5)).take 5)):
 ∃(x:MStp) (c:Array Value) (t:TypeId) (f:Nat×Nat),w.heap[b]? =some (.cells c t f)∧JM (some (.cells c t f)) (o+i*5) 5=true∧Xq (some (.cells c t f)) (o+i*5) 5=mstc x∧0≤x.v:=by
 obtain ⟨x,hy,hv⟩:=mstep_cellsV hk
 obtain ⟨cs,t,f,hb,_,hp⟩:=hA.elem (by omega) hi hy
 have h0:=hp 0 5 (by omega)
 rw [Nat.add_zero] at h0
 refine ⟨x,cs,t,f,hb,h0.1,?_,hv⟩
 rw [h0.2]
 simp [mstc]
section
variable {W w:World} {c:Cg} {sy n:Nat} {F:List Nat} {S:Mst} {cur:Nat→List Int} (hm:MS W w c sy F S) (hI:Inv c n S cur)
include hm hI
end
end
end Go.Proofs.YtadeoflkppiflaaGreatDoor
namespace Go.Proofs.YtadeoflkppiflaaGreatDoor
open Go.ChangeShapes Go.WideShapes Go.ChangeAt Go.RowKit
set_option linter.unusedVariables false
section
theorem own:ownKnob Tryz.prog.godebug=none:=by kernel_rfl
theorem laidOut:laidOutB Tryz.prog=true:=by kernel_rfl
theorem block_of_laid2 {P:Program} {W:World} {name name':String} {d d':DataW Unit} {g g':Nat} {t t':TypeId} {n n':Nat}
 (hg:P.globalNamed name=some g) (hty:(P.globals[g]?).map (·.type)=some t) (hp:Qcf P n t=true)
 (hg':P.globalNamed name'=some g') (hty':(P.globals[g']?).map (·.type)=some t') (hp':Qcf P n' t'=true)
 (hpl:([(name,d),(name',d')].all fun x=>x.2.handleName?.isNone)=true) (h:laidMetH P [(name,d),(name',d')] W):
 (∃ty f,W.heap[g]? =some (.cells (flat d).toArray ty f))∧∃ty f,W.heap[g']? =some (.cells (flat d').toArray ty f):=by
 rw [MakeChecks.laidMetH_plain _ _ _ hpl] at h
 obtain ⟨ps,⟨g1,t1,cs,fuel,p,q,hg1,ht1,hvar,hd,⟨g2,t2,cs2,fuel2,p2,q2,hg2,ht2,hvar2,hd2,_,_⟩,_⟩,_⟩:=h
 obtain rfl:=Option.some.inj (hg.symm.trans hg1)
 obtain rfl:=Option.some.inj (hty.symm.trans ht1)
 obtain rfl:=Option.some.inj (hg'.symm.trans hg2)
 obtain rfl:=Option.some.inj (hty'.symm.trans ht2)
 have e:=Qdp n t hp _ _ _ hd
 have e2:=Qdp n' t' hp' _ _ _ hd2
 refine ⟨?_,?_⟩
 ·unfold World.var? at hvar
  rw [hg] at hvar
  simp only [Option.bind_some] at hvar
  split at hvar
  ·rename_i c ty f hh
   injection hvar with hvar
   subst hvar
   refine ⟨ty,f,?_⟩
   rw [hh,←show c.toList=flat d from e]
  ·cases hvar
 ·unfold World.var? at hvar2
  rw [hg'] at hvar2
  simp only [Option.bind_some] at hvar2
  split at hvar2
  ·rename_i c ty f hh
   injection hvar2 with hvar2
   subst hvar2
   refine ⟨ty,f,?_⟩
   rw [hh,←show c.toList=flat d' from e2]
  ·cases hvar2
def laidM:List (String×DataW Unit):=[("bellows/msg.mayHave",Rows.laid_bellows_msg_mayHave),("bellows/agent.becomes",Rows.laid_bellows_agent_becomes)]
theorem gMay:Tryz.prog.globalNamed "bellows/msg.mayHave" =some 1:=by kernel_rfl
theorem tMay:(Tryz.prog.globals[1]?).map (·.type)=some 264:=by kernel_rfl
theorem gBec:Tryz.prog.globalNamed "bellows/agent.becomes" =some 0:=by kernel_rfl
theorem tBec:(Tryz.prog.globals[0]?).map (·.type)=some 227:=by kernel_rfl
theorem flatMay:flat (H:=Unit) Rows.laid_bellows_msg_mayHave=tabL:=by rfl
theorem flatBec:flat (H:=Unit) Rows.laid_bellows_agent_becomes=tbL:=by rfl
theorem tabs_of_laid {W:World} (h:laidMetH Tryz.prog laidM W):Tabs W:=by
 have:=block_of_laid2 (n:=9) (n':=9) gMay tMay (by kernel_rfl) gBec tBec (by kernel_rfl) (by kernel_rfl) h
 rw [flatMay,flatBec] at this
 exact this
theorem door_met (os:Os) (args:Array Value):laidMetH Tryz.prog laidM ((World.doorLaid Tryz.prog 200 os).forCall (fun _ _=>0) ⟨#[],args,[]⟩).memory:=
 laidMetH_of_parts3 (fuel:=8) (laidMet_of_run' 8 (by kernel_rfl) (by kernel_rfl)) (by kernel_rfl) (by kernel_rfl)
theorem to_below {e:Ending} {W w':World} (h:e=.returned (.bool true)∧Chg [] W w'):e=.returned (.bool true)∧Below W.heap.size W w':=⟨h.1,h.2.below (Nat.le_refl _) (by simp)⟩
def kCfg:List Kd:=[.int .i64,.int .i64,.int .i64,.int .i64,.int .i64,.int .i64,.int .i64]
theorem kinds_cfg:kinds Tryz.prog 9 23=some kCfg:=by kernel_rfl
theorem kinds_msts:kinds Tryz.prog 9 25=some [.slice kMst]:=by kernel_rfl
theorem cfg_cells {w:World} {cs:List Value} (h:AreKd w kCfg cs):∃a b c d e f g:Int,cs=[.int .i64 a,.int .i64 b,.int .i64 c,.int .i64 d,.int .i64 e,.int .i64 f,.int .i64 g]:=by
 obtain ⟨v0,c0,rfl,h0,hA⟩:=AreKd.head h
 obtain ⟨v1,c1,rfl,h1,hB⟩:=AreKd.head hA
 obtain ⟨v2,c2,rfl,h2,hC⟩:=AreKd.head hB
 obtain ⟨v3,c3,rfl,h3,hD⟩:=AreKd.head hC
 obtain ⟨v4,c4,rfl,h4,hE⟩:=AreKd.head hD
 obtain ⟨v5,c5,rfl,h5,hF⟩:=AreKd.head hE
 obtain ⟨v6,c6,rfl,h6,hG⟩:=AreKd.head hF
 obtain rfl:=AreKd.done hG
 simp only [IsKd] at h0 h1 h2 h3 h4 h5 h6
 obtain ⟨a,rfl,_⟩:=h0
 obtain ⟨b,rfl,_⟩:=h1
 obtain ⟨c,rfl,_⟩:=h2
 obtain ⟨d,rfl,_⟩:=h3
 obtain ⟨e,rfl,_⟩:=h4
 obtain ⟨f,rfl,_⟩:=h5
 obtain ⟨g,rfl,_⟩:=h6
 exact ⟨a,b,c,d,e,f,g,rfl⟩
end
end Go.Proofs.YtadeoflkppiflaaGreatDoor
namespace Go.Proofs.YtadeoflkppiflaaGreatDoor
open Go.RowKit
set_option linter.unusedVariables false
set_option maxHeartbeats 1000000
set_option maxRecDepth 100000
attribute [local go_sem ↓] QA QQ QH Q8 QS QC Za QN Zs Zh Qm Ql heap_alloc Qo heap_setCell Qb ZF Z4 Z5 Z3 Zc ZB Zk ZI Zv ZM ZK ZN ZL
attribute [local go_sem] Qc Qa Qd Qj Qf Qe Qh Qi Qw ZE QZ Zq QO QG Q6 Q0 Q5 Zi Q9 QM QB QI Zj Q7 Qz QP Qt Qk Qs Qr Qq Qp Qg Zb Ze lit8 QF ZG Zr Zt ZC Zd Zy ZH Zz Qv ZA Zl Zm QE QD QR ZO
attribute [local simp ↓] Qm Ql heap_alloc Qo heap_setCell Qb
attribute [local simp] Qc Qa Qd Qj Qf Qe Qh Qi Qw QB Qk Qs Qr Qq Qp Qg QF Qv QE QD QR QI
attribute [local go_sem ↓] XP XQ XO XN XS XR XM XZ
attribute [local go_sem] Xi XV Xh ZR ZT QL Xp ZZ X3 Zw QW QV QU QY QX QT QK QJ Zg Zf Xm ZW
attribute [local simp] QL Zf QW QV QU QY QX QT QK QJ Zg
attribute [local go_sem ↓] Xo ZV Xn ZU Z0
attribute [local go_sem] Xk Xj ZY Xl Qx Qy Z6
attribute [local simp] Z0 Qx Qy QI Zw
attribute [local go_sem ↓] Xg Yh Yi Y8
attribute [local simp] Xg
attribute [local go_sem ↓] Qea cg_li cg_vo cg_qu
attribute [local go_sem] Qdo Qa5 Qem Qb2 fold_cg fold_cg0 sysZ_put sysZ_size
section
theorem znew_img (W w:World) (c:Cg) (hc:c.Ok) (hW:Chg [] W w) (A:Option Addr) (nc:Nat) (ys:List Int) (hs:Sl w 8 A c.li (ys.map (Value.int .u64))):Calls Tryz.prog 12 #[.agg c.cells,.slice A c.li nc] w (MadeSys W w c (XE ys c.vo)):=by
 have HC:=Vh hc
 have HW:=Vh hW
 have HSL:=Vh hs
 have tl0:((c.li:Int) !=0)=true:=by have:=hc.li2;simp;omega
 have tl1:((c.li:Int) != (c.li:Int))=false:=by simp
 clear hc hW hs
 go_enter Tryz.func12,Tryz.ntmps12
 try dsimp only [List.append]
 go_wp2_with fail
 have r1:(w.alloc (.cells c.cells 23)).heap[w.heap.size]? =some (.cells c.cells 23 (0,0)):=by simp
 have C1:=Vh ((Chg.refl [] w).alloc (.cells c.cells 23))
 refine (zgood_at c HC.out _).mono ?_
 rintro e w2 ⟨rfl,c2⟩
 replace r1:=c2.keep r1 Vn
 have o1:=old r1
 have C2:=Vh (C1.out.trans c2)
 clear C1 c2
 have NB0:=Vh (show w.heap.size≠w2.heap.size from Nat.ne_of_lt o1.lt)
 generalize w.heap.size=b1 at r1 o1 NB0 ⊢
 go_wp2_with fail
 refine (new_ok c.li c.vo w2 HC.out.li2 HC.out.li64 HC.out.vo1 HC.out.vol).mono ?_
 rintro e w3 ⟨rfl,c3,hdev,hsz⟩
 replace r1:=c3.keep r1 Vn
 replace o1:=old r1
 have C3:=Vh (C2.out.trans c3)
 have HD:=Vh hdev
 have HL:=Vh C2.out.size
 have HGB:=Vh (show w.heap.size≤w2.heap.size+1∧w.heap.size≤w2.heap.size from ⟨by have:=C2.out.size;omega,C2.out.size⟩)
 have NB1:=Vh (show b1≠w2.heap.size from NB0.out)
 have HBB:=Vh (show w.heap.size≤w2.heap.size from C2.out.size)
 generalize w2.heap.size+1=g at HD HGB ⊢
 generalize w2.heap.size=b at HD HL HGB NB1 HBB
 clear c3 hsz
 have HG:=Vh (show w.heap.size≤g∧w.heap.size≤b from HGB.out)
 go_wp2_with fail
 refine (restore_ok g b c.li c.vo _ ys A nc w3 HD.out (HSL.out.chg C3.out (by simp))).mono ?_
 rintro e wr ⟨rfl,cr,dr⟩
 have CR:=Vh (C3.out.trans' cr (fun x hx=>.inr (by rw [Vs hx];exact HBB.out)))
 have DR:=Vh dr
 replace r1:=cr.keep r1 (by simpa using NB1.out)
 replace o1:=old r1
 clear cr dr
 go_wp2_with fail
 refine (fail_ok g b c.li c.vo ys wr DR.out).mono ?_
 rintro e wf ⟨rfl,cf,df⟩
 have CF:=Vh (CR.out.trans' cf (fun x hx=>.inr (by rw [Vs hx];exact HBB.out)))
 have DF:=Vh df
 replace r1:=cf.keep r1 (by simpa using NB1.out)
 replace o1:=old r1
 clear cf df
 go_wp2_with fail
 refine (wsys_new W c.li c.vo c.qu wf g b _ (HW.out.trans CF.out) DF.out (Nat.le_trans HW.out.size HG.out.1) (Nat.le_trans HW.out.size HG.out.2) HC.out.qu1 HC.out.qu16).mono ?_
 rintro e w4 ⟨q,rfl,hsys,c4,hq⟩
 replace r1:=c4.keep r1 Vn
 replace o1:=old r1
 have HS4:=Vh hsys
 have HQ:=Vh hq
 have C4:=Vh (CF.out.trans c4)
 clear hsys hq c4
 go_upto_region 9 with fail
 have rS:(w4.alloc (.cells (sysZ c (some q)) 95)).heap[w4.heap.size]? =some (.cells (sysZ c (some q)) 95 (0,0)):=Yr _ _
 have K5:=Vh ((Chg.refl [] w4).alloc (.cells (sysZ c (some q)) 95))
 have NS:=Vh (Nat.le_refl w4.heap.size)
 have NQ:=Vh (show q<w4.heap.size∧g<w4.heap.size∧b<w4.heap.size from ⟨HS4.out.2.1.oldq.lt,HS4.out.2.2.1.oldg,HS4.out.2.2.1.oldb⟩)
 have SY0:=Vh C4.out.size
 have HSZ:=Vh (show w4.heap.size≤(w4.alloc (.cells (sysZ c (some q)) 95)).heap.size by simp)
 generalize w4.heap.size=sy at rS NS NQ SY0 HSZ ⊢
 generalize w4.alloc (.cells (sysZ c (some q)) 95)=w5 at rS K5 HSZ ⊢
 have hf:=Qgv W w5 c HC.out sy (sysZ c (some q)) ((HW.out.trans C4.out).trans K5.out) (Nat.le_trans HW.out.size SY0.out) rS rfl rfl rfl rfl _ _ rfl rfl
 have HF:=Vh hf
 have HRS:=Vh rS
 clear hf rS r1 o1
 go_wp2_with fail
 refine HF.out.mono ?_
 rintro e w6 ⟨rfl,hfr⟩
 have hS5:=HS4.out.keep K5.out
 have hap:=HS4.out.2.2.2.1
 have hgb:g≠b:=by obtain ⟨_,_,_,_,_,_,_,h⟩:=HS4.out.2.2.1;exact h
 have hnd:([sy,q,g,b]++opt q q).Nodup:=by
  have h1:=NQ.out
  obtain ⟨a1,a2,a3,a4⟩:=hap
  simp [opt]
  omega
 obtain ⟨po,en,L,hm,hp,hc6,hk6⟩:=Qgk (z:=⟨sy,q,q,g,b,0,0,List.replicate 6 0⟩) (fun po en=>sysZ_enc c q ⟨sy,q,q,g,b,po,en,List.replicate 6 0⟩ rfl rfl) ((HW.out.trans C4.out).trans K5.out) HRS.out (Nat.le_trans HW.out.size SY0.out) (by simp) hS5 hnd hfr
 have HFIN:=Vh (show MadeSys W w c (XE ys c.vo) (.returned (.tuple #[.pointer (some ⟨sy,0,none⟩),.int .i64 0])) w6 by
  refine ⟨⟨sy,q,q,g,b,po,en,List.replicate 6 0⟩,L,rfl,hm,hp,((C4.out.trans K5.out).mono (by simp)).trans' hc6 (fun x hx=>.inr (by rw [Vs hx];exact SY0.out)),?_⟩
  intro k hk
  have h1:=HQ.out
  have h2:=HG.out
  have h3:=CF.out.size
  have h4:=SY0.out
  have h5:=C4.out.size
  have h6:=K5.out.size
  rcases hk6 k hk with h|h
  ·simp [opt] at h
   omega
  ·have:=HSZ.out
   omega)
 clear hfr hm hp hc6 hk6 hnd hS5
 go_wp2_with fail
 go_ret2
 exact HFIN.out
theorem mnew_img (W w:World) (c:Cg) (hc:c.Ok) (hW:Chg [] W w) (A:Option Addr) (nc:Nat) (ys:List Int) (hs:Sl w 8 A c.li (ys.map (Value.int .u64))):Calls Tryz.prog 12 #[.agg c.cells,.slice A c.li nc] w fun e w'=>∃sy F,e=.returned (.tuple #[.pointer (some ⟨sy,0,none⟩),.int .i64 0])∧Mem W w' c sy F (List.replicate c.co (pt0 c)) (List.replicate c.li enE) [] (XE ys c.vo)∧Chg [] w w'∧∀k∈F,w.heap.size≤k:=
 (znew_img W w c hc hW A nc ys hs).mono fun e w' ⟨z,L,he,hm,hp,hc,hk⟩=>⟨z.sy,z.all L,he,⟨z,L,rfl,rfl,hp,hm⟩,hc,hk⟩
end
end Go.Proofs.YtadeoflkppiflaaGreatDoor
