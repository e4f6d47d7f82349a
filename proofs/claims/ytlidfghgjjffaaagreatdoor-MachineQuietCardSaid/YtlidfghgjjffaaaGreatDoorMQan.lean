/- Texts of the walk, one behind the other: Mgf Psa Psb Pua Mcf Prg Coi Mcg Isb Onc. No condition. -/
import Derived.Test.YtlidfghgjjffaaaGreatDoorMQaa
import Derived.Test.YtlidfghgjjffaaaGreatDoorMQaj
import Derived.Test.YtlidfghgjjffaaaGreatDoorMQam
import Derived.BigQuiet
import Derived.ChangeAlike
import Derived.Deep.Cut
import Derived.Deep.CutBlock
import Derived.Deep.CutRange
import Derived.Deep.DeepCutAuto
import Derived.Deep.QuietTactic
import Derived.Deep.RegionHeld3
import Derived.Deep.RegionWith
import Derived.Defers
import Derived.Laws.Bits64b
import Derived.Laws.LoneSync
import Derived.Laws.NewBlocks
import Derived.Laws.Pointers
import Derived.RegionCalls
import Derived.RegionTactic
import Derived.Tactics
import Derived.Tactics2
namespace Go.Proofs.YtlidfghgjjffaaaGreatDoor
open Go.RowKit
set_option linter.unusedVariables false
set_option maxHeartbeats 1000000
section
def MTS (W w:World) (c:Cg) (sy:Nat) (F:List Nat) (S:Mst) (w':World):Prop:=MemTo W w c sy F S.ps S.en S.es S.xs w'
def MS (W w:World) (c:Cg) (sy:Nat) (F:List Nat) (S:Mst):Prop:=Mem W w c sy F S.ps S.en S.es S.xs
theorem tellL_len (o:Mk) (a:Ms):(XC o a).length≤8:=by
 unfold XC Qbi
 rw [List.length_map]
 exact Qe9 o 8
theorem tellL_to {o:Mk} {a:Ms} {co:Nat} (ho:∀j:Nat,j<8→hasM o j=true→j<co) (ha:mg a=true):∀d∈XC o a,0≤d.to∧d.to<co∧mg d.m=true:=by
 intro d hd
 obtain ⟨h1,h2⟩:=Qhc hd
 obtain ⟨j,hj,he⟩:=J2 (has_isC h1)
 rw [he] at h1
 have:=ho j hj h1
 exact ⟨by omega,by omega,by rw [h2];exact ha⟩
section
variable {W w:World} {c:Cg} {sy n:Nat} {F:List Nat} {S:Mst} {cur:Nat→List Int} (hm:MS W w c sy F S) (hI:Inv c n S cur)
include hm
include hI
theorem yfail:Calls Tryz.prog 89 #[.pointer (some ⟨sy,0,none⟩)] w fun e w'=>e=.returned (.tuple #[])∧MTS W w c sy F (failM c S) w':=mfail_ok hm hI.ok
end
end
section
structure Quiet (c:Cg) (S:Mst):Prop where
 q:∀j,j<c.co→(atP S.ps j).up=[]∧(atP S.ps j).an=[]∧(atP S.ps j).dn=[]
 bu:∀e∈S.en,e.bu=0
section
variable {c:Cg} {n:Nat} {S:Mst} {cur:Nat→List Int} (h:Inv c n S cur) (hq:Quiet c S)
include h hq
end
end
section
section
variable {c:Cg} {S:Mst} (hl:S.ps.length=c.co) {j:Nat} (hj:j<c.co)
include hl hj
end
structure Req (c:Cg) (k i:Nat) (m:Ms) (en0:List En) (e0:En) (Z:Prop):Prop where
 hk:k<c.co
 hi:i<c.li
 hm:m.li=(i:Int)
 hb:∀e∈en0,e.bu=0
 he:en0[i]? =some e0
 hz:m.kd=4∨m.kd=5→Z
structure PA (c:Cg) (k i:Nat) (m:Ms) (en0:List En) (sK:Sta) (Z:Prop) (S:Mst):Prop where
 q:∀j,j<c.co→(atP S.ps j).up=(if j=k then [m] else [])∧(atP S.ps j).an=[]∧(atP S.ps j).dn=[]
 en:S.en=en0
 sk:(atP S.ps k).s=sK
 es:Z→S.es=[]
section
variable {c:Cg} {k i:Nat} {m:Ms} {en0:List En} {e0 e:En} {sK:Sta} {Z:Prop} {S:Mst}
variable {n:Nat} {cur:Nat→List Int} (R:Req c k i m en0 e0 Z) (h:Inv c n S cur)
include R h
end
end
section
def Roomy (c:Cg) (S:Mst):Prop:=∀j,j<c.co→(atP S.ps j).up.length≤980∧(atP S.ps j).an.length≤980∧(atP S.ps j).dn.length≤980
theorem Roomy.dnB {c:Cg} {n:Nat} {S:Mst} {cur:Nat→List Int} (hQ:Roomy c S) (h:Inv c n S cur):∀x∈S.ps,x.dn.length≤980:=by
 intro x hx
 obtain ⟨j,hj⟩:=List.getElem?_of_mem hx
 have hjl:=(Vg hj).1
 have:=(hQ j (by rw [←h.co];exact hjl)).2.2
 rw [JB hj] at this
 exact this
section
variable {W w:World} {c:Cg} {sy n:Nat} {F:List Nat} {S:Mst} {cur:Nat→List Int} (hm:MS W w c sy F S) (hI:Inv c n S cur)
include hm
theorem MS.sameU {w':World} (hc:Chg [] w w'):MTS W w c sy F S w':=Mem.stay hm hc
include hI
theorem uload (hn:n≤1000000000) (hQ:Roomy c S) (hT:Tab W) (k li wd:Int):
 Calls Tryz.prog 193 #[.pointer (some ⟨sy,0,none⟩),.int .i64 k,.int .i64 li,.int .i64 wd] w fun e w'=>e=.returned (.tuple #[.int .u64 (loadM c S k li wd).2.v,.bool (loadM c S k li wd).2.hit])∧MTS W w c sy F (loadM c S k li wd).1 w':=by
 unfold loadM
 cases hp:Xo c S k with
 |none=>exact (mload_no hm k li wd (hI.portNone hp)).mono fun e w' h=>⟨h.1,MS.sameU hm (h.2▸Chg.refl [] w)⟩
 |some x=>
  obtain ⟨j,rfl,hj,hx,hat,hP,_⟩:=hI.port hp
  have hQj:=hQ j hj
  rw [hat] at hQj
  have hus:x.s.2≤1000000000:=by have:=hP.us;omega
  have hq:x.up.length<1000:=by have:=hQj.1;omega
  have h64:=hI.ok.li64
  dsimp only
  by_cases hl:inB li c.li=true
  ·rw [if_pos hl]
   obtain ⟨_,b,_⟩:=hP.aj.loadF (XL.1 hl).2 wd
   exact mload_ok hm j li wd x hx hT hl hus hq (b.msgs h64).2 (b.msgs h64).1
  ·rw [if_neg hl]
   exact (mload_off hm j li wd hj (by simpa using hl)).mono fun e w' h=>⟨h.1,MS.sameU hm (h.2▸Chg.refl [] w)⟩
theorem ustore (hn:n≤1000000000) (hQ:Roomy c S) (hT:Tab W) (k li wd v:Int):
 Calls Tryz.prog 143 #[.pointer (some ⟨sy,0,none⟩),.int .i64 k,.int .i64 li,.int .i64 wd,.int .u64 v] w fun e w'=>e=.returned (.bool (storeM c S k li wd v).2.hit)∧MTS W w c sy F (storeM c S k li wd v).1 w':=by
 unfold storeM
 cases hp:Xo c S k with
 |none=>exact (mstore_no hm k li wd v (hI.portNone hp)).mono fun e w' h=>⟨h.1,MS.sameU hm (h.2▸Chg.refl [] w)⟩
 |some x=>
  obtain ⟨j,rfl,hj,hx,hat,hP,_⟩:=hI.port hp
  have hQj:=hQ j hj
  rw [hat] at hQj
  have hus:x.s.2≤1000000000:=by have:=hP.us;omega
  have hq:x.up.length<1000:=by have:=hQj.1;omega
  have h64:=hI.ok.li64
  dsimp only
  by_cases hl:inB li c.li=true
  ·rw [if_pos hl]
   have hms:(storeF c.se c.wa x.s li wd v).2.2.length≤1∧∀m∈(storeF c.se c.wa x.s li wd v).2.2,mg m=true:=by
    obtain ⟨_,⟨_,_,_,_,b4,_,_⟩|⟨_,b2⟩⟩:=hP.aj.storeF (XL.1 hl).2 wd v
    ·rw [b4];exact ⟨Nat.zero_le _,fun m hm=>by cases hm⟩
    ·exact b2.msgs h64
   exact mstore_ok hm j li wd v x hx hT hl hus hq hms.2 hms.1
  ·rw [if_neg hl]
   exact (mstore_off hm j li wd v hj (by simpa using hl)).mono fun e w' h=>⟨h.1,MS.sameU hm (h.2▸Chg.refl [] w)⟩
theorem ureach (hn:n≤1000000000) (hQ:Roomy c S) (hT:Tab W) (k li:Int):
 Calls Tryz.prog 195 #[.pointer (some ⟨sy,0,none⟩),.int .i64 k,.int .i64 li] w fun e w'=>e=.returned (.bool (reachM c S k li).2.hit)∧MTS W w c sy F (reachM c S k li).1 w':=by
 unfold reachM
 cases hp:Xo c S k with
 |none=>exact (mreach_no hm k li (hI.portNone hp)).mono fun e w' h=>⟨h.1,MS.sameU hm (h.2▸Chg.refl [] w)⟩
 |some x=>
  obtain ⟨j,rfl,hj,hx,hat,hP,_⟩:=hI.port hp
  have hQj:=hQ j hj
  rw [hat] at hQj
  have hus:x.s.2≤1000000000:=by have:=hP.us;omega
  have hq:x.up.length<1000:=by have:=hQj.1;omega
  have h64:=hI.ok.li64
  dsimp only
  by_cases hl:inB li c.li=true
  ·rw [if_pos hl]
   by_cases ho:Qeo x.s.1 li=true
   ·rw [if_pos ho]
    exact (mreach_own hm j li x hx hl ho).mono fun e w' h=>⟨h.1,MS.sameU hm h.2⟩
   ·rw [if_neg ho]
    obtain ⟨_,b⟩:=hP.aj.reachF (XL.1 hl).2
    exact mreach_ok hm j li x hx hT hl (by simpa using ho) hus hq (b.msgs h64).2 (b.msgs h64).1
  ·rw [if_neg hl]
   exact (mreach_off hm j li hj (by simpa using hl)).mono fun e w' h=>⟨h.1,MS.sameU hm (h.2▸Chg.refl [] w)⟩
theorem uevict (hn:n≤1000000000) (hQ:Roomy c S) (hT:Tab W) (k li:Int):
 Calls Tryz.prog 86 #[.pointer (some ⟨sy,0,none⟩),.int .i64 k,.int .i64 li] w fun e w'=>e=.returned (.int .i64 (evictM c S k li).2.e)∧MTS W w c sy F (evictM c S k li).1 w':=by
 unfold evictM
 cases hp:Xo c S k with
 |none=>exact (mevict_no hm k li (hI.portNone hp)).mono fun e w' h=>⟨h.1,MS.sameU hm (h.2▸Chg.refl [] w)⟩
 |some x=>
  obtain ⟨j,rfl,hj,hx,hat,hP,_⟩:=hI.port hp
  have hQj:=hQ j hj
  rw [hat] at hQj
  have hus:x.s.2≤1000000000:=by have:=hP.us;omega
  have hq:x.up.length<1000:=by have:=hQj.1;omega
  have h64:=hI.ok.li64
  dsimp only
  by_cases hl:inB li c.li=true
  ·rw [if_pos hl]
   obtain ⟨_,b⟩:=hP.aj.evictF li
   exact mevict_ok hm j li x hx hT hl hus hq (b.msgs h64).2 (b.msgs h64).1
  ·rw [if_neg hl]
   exact (mevict_off hm j li hj (by simpa using hl)).mono fun e w' h=>⟨h.1,MS.sameU hm (h.2▸Chg.refl [] w)⟩
theorem uflush (hn:n≤1000000000) (hQ:Roomy c S) (hT:Tab W) (k li kd:Int):
 Calls Tryz.prog 145 #[.pointer (some ⟨sy,0,none⟩),.int .i64 k,.int .i64 li,.int .i64 kd] w fun e w'=>e=.returned (.int .i64 (flushM c S k li kd).2.e)∧MTS W w c sy F (flushM c S k li kd).1 w':=by
 unfold flushM
 cases hp:Xo c S k with
 |none=>exact (mflush_no hm k li kd (hI.portNone hp)).mono fun e w' h=>⟨h.1,MS.sameU hm (h.2▸Chg.refl [] w)⟩
 |some x=>
  obtain ⟨j,rfl,hj,hx,hat,hP,_⟩:=hI.port hp
  have hQj:=hQ j hj
  rw [hat] at hQj
  have hus:x.s.2≤1000000000:=by have:=hP.us;omega
  have hq:x.up.length<1000:=by have:=hQj.1;omega
  have h64:=hI.ok.li64
  dsimp only
  by_cases hl:inB li c.li=true
  ·by_cases hk:kd=4∨kd=5
   ·rw [if_pos ⟨hl,hk⟩]
    have hmg:=(hI.flush hj hx hl hk).2
    rcases hk with rfl|rfl
    ·exact mflush_4 hm j li x hx hT hl hq hmg
    ·exact mflush_5 hm j li x hx hT hl hq hmg
   ·rw [if_neg (fun h=>hk h.2)]
    exact (mflush_kind hm j li kd hj hl (fun h=>hk (.inl h)) (fun h=>hk (.inr h))).mono fun e w' h=>⟨h.1,MS.sameU hm (h.2▸Chg.refl [] w)⟩
  ·rw [if_neg (fun h=>hl h.1)]
   exact (mflush_off hm j li kd hj (by simpa using hl)).mono fun e w' h=>⟨h.1,MS.sameU hm (h.2▸Chg.refl [] w)⟩
theorem uup (hn:n≤1000000000) (hQ:Roomy c S) (hT:Tab W) (k:Int):
 Calls Tryz.prog 80 #[.pointer (some ⟨sy,0,none⟩),.int .i64 k] w fun e w'=>e=.returned (.int .i64 (upM c S k).2.e)∧MTS W w c sy F (upM c S k).1 w':=by
 unfold upM
 cases hp:Xo c S k with
 |none=>exact (mup_no hm k (hI.portNone hp)).mono fun e w' h=>⟨h.1,MS.sameU hm (h.2▸Chg.refl [] w)⟩
 |some x=>
  obtain ⟨j,rfl,hj,hx,hat,hP,_⟩:=hI.port hp
  have hQj:=hQ j hj
  rw [hat] at hQj
  have hus:x.s.2≤1000000000:=by have:=hP.us;omega
  have hq:x.up.length<1000:=by have:=hQj.1;omega
  have h64:=hI.ok.li64
  dsimp only
  cases hu:x.up with
  |nil=>exact (mup_none hm j x hx hu).mono fun e w' h=>⟨h.1,MS.sameU hm h.2⟩
  |cons m rest=>
   obtain ⟨i,e,hi,hic,he,hc⟩:=hI.up hj hx hu
   have ei:i=m.li.toNat:=by omega
   subst ei
   dsimp only
   rw [he]
   dsimp only
   have hX:ln (over S.xs S.es) m.li.toNat=lnG S.X m.li.toNat:=(lnG_eq (hI.ln8 hic)).symm
   rcases hc with ⟨_,h2⟩|⟨_,o,a,e',h2,h3,h4,_⟩
   ·rw [h2,if_neg (by decide)]
    refine (mup_go hm j m.li.toNat x hx m rest e enZ (lnG S.X m.li.toNat) (Qbl _ _) [] 15 hT hu (by omega) hi he hX h2 (fun d hd=>by cases hd) 980 (hQ.dnB hI) (by show 980+0≤1000;omega)).mono fun r w' hr=>?_
    rcases hr with ⟨_,q2,q3⟩|⟨q1,_⟩
    ·exact ⟨q2,q3⟩
    ·exact absurd q1 (by decide)
   ·rw [h2,if_pos rfl]
    refine (mup_go hm j m.li.toNat x hx m rest e e' (lnG S.X m.li.toNat) (Qbl _ _) (XC o a) 0 hT hu (by omega) hi he hX h2 (tellL_to h4 h3.1) 980 (hQ.dnB hI) (by have:=tellL_len o a;omega)).mono fun r w' hr=>?_
    rcases hr with ⟨q1,_⟩|⟨_,q2,q3⟩
    ·exact absurd rfl q1
    ·exact ⟨q2,q3⟩
theorem uanswer (hn:n≤1000000000) (hQ:Roomy c S) (hT:Tab W) (k:Int):
 Calls Tryz.prog 81 #[.pointer (some ⟨sy,0,none⟩),.int .i64 k] w fun e w'=>e=.returned (.int .i64 (answerM c S k).2.e)∧MTS W w c sy F (answerM c S k).1 w':=by
 unfold answerM
 cases hp:Xo c S k with
 |none=>exact (manswer_no hm k (hI.portNone hp)).mono fun e w' h=>⟨h.1,MS.sameU hm (h.2▸Chg.refl [] w)⟩
 |some x=>
  obtain ⟨j,rfl,hj,hx,hat,hP,_⟩:=hI.port hp
  have hQj:=hQ j hj
  rw [hat] at hQj
  have hus:x.s.2≤1000000000:=by have:=hP.us;omega
  have hq:x.up.length<1000:=by have:=hQj.1;omega
  have h64:=hI.ok.li64
  dsimp only
  cases hu:x.an with
  |nil=>
   refine (manswer_none hm j x hx hu).mono fun e w' h=>⟨h.1,?_⟩
   have e1:S.ps.set j {x with an:=[]}=S.ps:=by
    have:({x with an:=[]}:Pt)=x:=by rw [←hu]
    rw [this]
    obtain ⟨h1,h2⟩:=Vg hx
    rw [←h2];exact List.set_getElem_self h1
   have h2:=h.2
   rw [e1] at h2
   exact h2
  |cons m rest=>
   obtain ⟨i,e,hi,hic,he,o,a,e',h2,h3,h4,_⟩:=hI.answer hj hx hu
   have ei:i=m.li.toNat:=by omega
   subst ei
   dsimp only
   rw [he]
   dsimp only
   rw [h2,if_pos rfl]
   refine (manswer_go hm j m.li.toNat x hx m rest e e' (XC o a) 0 hT hu (by have:=hQj.2.1;omega) hi he h2 (tellL_to h4 h3.1) 980 (hQ.dnB hI) (by have:=tellL_len o a;omega)).mono fun r w' hr=>?_
   rcases hr with ⟨q1,_⟩|⟨_,q2,q3⟩
   ·exact absurd rfl q1
   ·exact ⟨q2,q3⟩
theorem uhear (hn:n≤1000000000) (hQ:Roomy c S) (hT:Tabs W) (k:Int):
 Calls Tryz.prog 82 #[.pointer (some ⟨sy,0,none⟩),.int .i64 k] w fun e w'=>e=.returned (.tuple #[.agg (msc (hearM c S k).2.m),.int .i64 (hearM c S k).2.e])∧MTS W w c sy F (hearM c S k).1 w':=by
 unfold hearM
 cases hp:Xo c S k with
 |none=>exact (mhear_no hm k (hI.portNone hp)).mono fun e w' h=>⟨h.1,MS.sameU hm h.2⟩
 |some x=>
  obtain ⟨j,rfl,hj,hx,hat,hP,_⟩:=hI.port hp
  have hQj:=hQ j hj
  rw [hat] at hQj
  have hus:x.s.2≤1000000000:=by have:=hP.us;omega
  have hq:x.up.length<1000:=by have:=hQj.1;omega
  have h64:=hI.ok.li64
  dsimp only
  cases hu:x.dn with
  |nil=>
   refine (mhear_none hm j x hx hu).mono fun e w' h=>⟨h.1,?_⟩
   have e1:S.ps.set j {x with dn:=[]}=S.ps:=by
    have:({x with dn:=[]}:Pt)=x:=by rw [←hu]
    rw [this]
    obtain ⟨h1,h2⟩:=Vg hx
    rw [←h2];exact List.set_getElem_self h1
   have h2:=h.2
   rw [e1] at h2
   exact h2
  |cons m rest=>
   obtain ⟨_,h2,h3,h4,_⟩:=hI.hear hj hx hu
   dsimp only
   rw [if_pos h2]
   refine (mhear_go hm j x hx m rest (hearF c.se c.wa x.s m).1 (hearF c.se c.wa x.s m).2.1 0 hT hu (by have:=hQj.2.2;omega) hus (by rw [←h2]) h3 (by have:=hQj.2.1;omega) h4).mono fun r w' hr=>?_
   rcases hr with ⟨q1,_⟩|⟨_,q2,q3⟩
   ·exact absurd rfl q1
   ·exact ⟨q2,q3⟩
theorem upush (hn:n≤1000000000) (hQ:Roomy c S) (hT:Tab W) (li:Int):
 Calls Tryz.prog 84 #[.pointer (some ⟨sy,0,none⟩),.int .i64 li] w fun e w'=>e=.returned (.int .i64 (pushM c S li).2.e)∧MTS W w c sy F (pushM c S li).1 w':=by
 unfold pushM
 by_cases hl:inB li c.li=true
 ·rw [if_pos hl]
  obtain ⟨l0,ln⟩:=XL.1 hl
  obtain ⟨i,rfl⟩:∃i:Nat,li=(i:Int):=⟨li.toNat,by omega⟩
  rw [Int.toNat_natCast]
  have hic:i<c.li:=by omega
  obtain ⟨e,he,_⟩:=hI.entry hic
  rw [he]
  dsimp only
  by_cases hr:Jy e=true
  ·rw [if_pos hr]
   obtain ⟨p1,p2,p3,_⟩:=hI.push hic he hr
   have hg:=mpush_go hm i e hT he hr p1 p2 p3 (Qat c S.es i e) rfl (Ju c S.es i e) rfl 980 (hQ.dnB hI) (by omega)
   by_cases hv:Qat c S.es i e=0
   ·rw [if_pos hv]
    refine hg.mono fun r w' h=>?_
    rcases h with ⟨q1,_⟩|⟨_,q2,q3⟩
    ·exact absurd hv q1
    ·refine ⟨q2,?_⟩
     rw [←Qhb p1] at q3
     exact q3
   ·rw [if_neg hv]
    refine hg.mono fun r w' h=>?_
    rcases h with ⟨_,q2,q3⟩|⟨q1,_⟩
    ·exact ⟨q2,q3⟩
    ·exact absurd q1 hv
  ·rw [if_neg hr]
   exact (mpush_wait hm i e hT he (by simpa using hr)).mono fun e w' h=>⟨h.1,MS.sameU hm h.2⟩
 ·rw [if_neg hl]
  exact (mpush_off hm li (by simpa using hl)).mono fun e w' h=>⟨h.1,MS.sameU hm (h.2▸Chg.refl [] w)⟩
theorem udrop (hn:n≤1000000000) (hQ:Roomy c S) (hT:Tab W) (li:Int):
 Calls Tryz.prog 87 #[.pointer (some ⟨sy,0,none⟩),.int .i64 li] w fun e w'=>e=.returned (.int .i64 (dropM c S li).2.e)∧MTS W w c sy F (dropM c S li).1 w':=by
 unfold dropM
 by_cases hl:inB li c.li=true
 ·rw [if_pos hl]
  obtain ⟨l0,ln⟩:=XL.1 hl
  obtain ⟨i,rfl⟩:∃i:Nat,li=(i:Int):=⟨li.toNat,by omega⟩
  rw [Int.toNat_natCast]
  have hic:i<c.li:=by omega
  obtain ⟨e,he,_⟩:=hI.entry hic
  rw [he]
  dsimp only
  by_cases hr:Qdg e=true
  ·rw [if_pos hr]
   exact (mdrop_kept hm i e he hr).mono fun e w' h=>⟨h.1,MS.sameU hm h.2⟩
  ·rw [if_neg hr]
   have hg:=mdrop_go hm i e hT he (by simpa using hr) (Qat c S.es i e) rfl (Ju c S.es i e) rfl 980 (hQ.dnB hI) (by omega)
   by_cases hv:Qat c S.es i e=0
   ·rw [if_pos hv]
    refine hg.mono fun r w' h=>?_
    rcases h with ⟨q1,_⟩|⟨_,q2,q3⟩
    ·exact absurd hv q1
    ·exact ⟨q2,q3⟩
   ·rw [if_neg hv]
    refine hg.mono fun r w' h=>?_
    rcases h with ⟨_,q2,q3⟩|⟨q1,_⟩
    ·exact ⟨q2,q3⟩
    ·exact absurd q1 hv
 ·rw [if_neg hl]
  exact (mdrop_off hm li (by simpa using hl)).mono fun e w' h=>⟨h.1,MS.sameU hm (h.2▸Chg.refl [] w)⟩
theorem udrain (hn:n≤1000000000) (hQ:Roomy c S) (hT:Tab W) (li:Int):
 Calls Tryz.prog 88 #[.pointer (some ⟨sy,0,none⟩),.int .i64 li] w fun e w'=>e=.returned (.int .i64 (drainM c S li).2.e)∧MTS W w c sy F (drainM c S li).1 w':=by
 unfold drainM
 have _hI:=hI
 by_cases hl:inB li c.li=true
 ·rw [if_pos hl]
  exact mdrain_ok hm li hl
 ·rw [if_neg hl]
  exact (mdrain_off hm li (by simpa using hl)).mono fun e w' h=>⟨h.1,MS.sameU hm (h.2▸Chg.refl [] w)⟩
end
end
section
set_option linter.unusedSectionVars false
def flB (e:En) (j:Nat):Bool:=(e.bu==4||e.bu==5)&&e.by_==(j:Int)
def fU (x:Pt):Nat:=x.up.countP (fun m=>decide (4≤m.kd))
def fD (x:Pt):Nat:=x.dn.countP (fun m=>m.kd==14)
def fE (en:List En) (j:Nat):Nat:=en.countP (flB · j)
def Fl (S:Mst) (j:Nat):Nat:=fU (atP S.ps j)+fE S.en j+fD (atP S.ps j)
theorem flB_bu {e e':En} (h1:e'.bu=e.bu) (h2:e'.by_=e.by_) (j:Nat):flB e' j=flB e j:=by unfold flB;rw [h1,h2]
theorem Qdu {e:En} (h:e.bu≠4) (h5:e.bu≠5) (j:Nat):flB e j=false:=by unfold flB;simp [h,h5]
theorem fE_set {en:List En} {i:Nat} {e e':En} (h:en[i]? =some e) (j:Nat):fE (en.set i e') j+(if flB e j=true then 1 else 0)=fE en j+(if flB e' j=true then 1 else 0):=by
 obtain ⟨hi,rfl⟩:=Vg h
 unfold fE
 rw [List.countP_set hi]
 have:(if flB en[i] j=true then 1 else 0)≤en.countP (flB · j):=by
  split
  ·rename_i hb
   exact List.countP_pos_iff.2 ⟨_,List.getElem_mem hi,hb⟩
  ·exact Nat.zero_le _
 omega
theorem fE_same {en:List En} {i:Nat} {e e':En} (h:en[i]? =some e) {j:Nat} (hb:flB e' j=flB e j):fE (en.set i e') j=fE en j:=by
 have:=fE_set (e':=e') h j
 rw [hb] at this
 omega
theorem Qht (e:En) (c:Int):(Za e c).bu=e.bu∧(Za e c).by_=e.by_:=by unfold Za;split<;>exact ⟨rfl,rfl⟩
theorem Qhs (e:En) (m:Ms):(Ze e m).bu=e.bu∧(Ze e m).by_=e.by_:=by unfold Ze;split<;>exact ⟨rfl,rfl⟩
theorem hereP_bu (e:En) (l:List Int) (h:l.length=8):(Qci e l h).bu=e.bu∧(Qci e l h).by_=e.by_:=by unfold Qci;split<;>exact ⟨rfl,rfl⟩
theorem deed_fl {e:En} (h0:e.bu=0) (k:Nat) {m:Ms} (hm:Qeq m.kd=true) (j:Nat):flB (YT e (k:Int) m).1 j=(decide (4≤m.kd)&&decide (k=j)):=by
 have hk:1≤m.kd∧m.kd≤5:=by simpa [Qeq] using hm
 have hz:∀e':En,e'.bu=0→flB e' j=false:=fun e' h=>Qdu (by omega) (by omega) j
 have hw:∀(o:Mk) (kt:Int),m.kd≤3→flB (J0 e (k:Int) m o kt).1 j=false:=fun o kt h3=>Qdu (show m.kd≠4 by omega) (show m.kd≠5 by omega) j
 have hf:∀(o:Mk) (kt:Int),4≤m.kd→flB (J0 e (k:Int) m o kt).1 j=decide (k=j):=by
  intro o kt h4
  show ((m.kd==4||m.kd==5)&&(k:Int)==(j:Int))=_
  have:(m.kd==4||m.kd==5)=true:=by simp;omega
  rw [this,Bool.true_and]
  by_cases hj:k=j
  ·simp [hj]
  ·have:(k:Int)≠(j:Int):=by omega
   simp [hj,this]
 by_cases h3:m.kd≤3
 ·have e4:decide (4≤m.kd)=false:=decide_eq_false (by omega)
  rw [e4,Bool.false_and]
  unfold YT
  split
  ·unfold Qe3
   split
   ·exact hw _ _ h3
   ·split
    ·exact hz _ h0
    ·exact hz _ h0
  split
  ·unfold Qgk
   split
   ·exact hz _ h0
   ·exact hw _ _ h3
  split
  ·unfold putE
   refine hz _ ?_
   rw [(Qht _ _).1]
   split
   ·rw [(Qhs _ _).1];exact h0
   ·exact h0
  ·omega
 ·have e4:decide (4≤m.kd)=true:=decide_eq_true (by omega)
  rw [e4,Bool.true_and]
  unfold YT
  rw [if_neg (by omega),if_neg (by omega),if_neg (by omega)]
  split
  ·exact hf _ _ (by omega)
  ·exact hf _ _ (by omega)
theorem ans_fl {e e':En} {k:Int} {m:Ms} {d:List Sd} (h:ansE e k m=((e',d),0)) (j:Nat):flB e' j=flB e j:=by
 have ha:(QW e k m).bu=e.bu∧(QW e k m).by_=e.by_:=by
  have h1:=Qht (Ze e m) k
  have h2:=Qhs e m
  unfold QW
  dsimp only
  split
  ·exact ⟨h1.1.trans h2.1,h1.2.trans h2.2⟩
  ·exact ⟨h1.1.trans h2.1,h1.2.trans h2.2⟩
 unfold ansE at h
 split at h
 ·split at h
  ·split at h
   ·injection h with h _;injection h with h _
    subst h
    exact flB_bu ha.1 ha.2 j
   ·injection h with h _
    have h':=congrArg Prod.fst h
    dsimp only at h'
    rw [←h']
    unfold YP
    split
    ·rename_i h1
     rw [Qdu (show (0:Int)≠4 by decide) (show (0:Int)≠5 by decide),Qdu (by rw [←ha.1,h1];decide) (by rw [←ha.1,h1];decide)]
    ·split
     ·rename_i h1
      rw [Qdu (show (0:Int)≠4 by decide) (show (0:Int)≠5 by decide),Qdu (by rw [←ha.1,h1];decide) (by rw [←ha.1,h1];decide)]
     ·exact flB_bu ha.1 ha.2 j
  ·injection h with _ h;cases h
 ·injection h with _ h;cases h
theorem AOk.kinds {li st st':Int} {l l':List Int} {ms:List Ms} (h:AOk li st l st' l' ms):∀m∈ms,m.kd≤3:=by
 cases h with
 |outM l m hk=>intro x hx;simp only [List.mem_singleton] at hx;subst hx;omega
 |_=>intro x hx;simp only [List.mem_singleton] at hx;subst hx;simp [ms4]
theorem Asks.kinds {n:Nat} {s s':Sta} {ms:List Ms} (h:Asks n s s' ms):∀m∈ms,m.kd≤3:=by
 rcases h with ⟨rfl,_⟩|⟨li,_,_,h,_⟩
 ·simp
 ·exact h.kinds
theorem fU_app {x:Pt} {s':Sta} {ms:List Ms} (h:∀m∈ms,m.kd≤3):fU {x with s:=s',up:=x.up++ms}=fU x:=by
 unfold fU
 have h0:ms.countP (fun m=>decide (4≤m.kd))=0:=List.countP_eq_zero.2 (fun m hm=>by have:=h m hm;simp;omega)
 rw [List.countP_append,h0,Nat.add_zero]
theorem ps_lt {S:Mst} {k:Nat} {x:Pt} (hx:S.ps[k]? =some x):k<S.ps.length:=(Vg hx).1
theorem fl_put {S:Mst} {k:Nat} {x y:Pt} (hx:S.ps[k]? =some x) (j:Nat) (h1:fU y=fU x) (h2:fD y=fD x):Fl (S.put (k:Int) y) j=Fl S j:=by
 unfold Fl Mst.put
 simp only [Int.toNat_natCast]
 rw [YV (ps_lt hx)]
 split
 ·rename_i e;subst e;rw [h1,h2,JB hx]
 ·rfl
theorem fl_sent {c:Cg} {ps:List Pt} (hl:ps.length=c.co) {o:Mk} {a:Ms} (ho:∀j:Nat,j<8→hasM o j=true→j<c.co) (j:Nat) (hj:j<c.co):fU (atP (Jf ps (XC o a)) j)=fU (atP ps j)∧fD (atP (Jf ps (XC o a)) j)=fD (atP ps j)+(if hasM o j=true∧a.kd=14 then 1 else 0):=by
 obtain ⟨_,h2⟩:=Qd9 o a ps (fun i hi hm=>by rw [hl];exact ho i hi hm)
 rw [h2 j (by rw [hl];exact hj)]
 by_cases hm:hasM o j=true
 ·rw [if_pos hm]
  refine ⟨rfl,?_⟩
  unfold fD
  rw [List.countP_append]
  by_cases h14:a.kd=14
  ·simp [hm,h14]
  ·simp [hm,h14]
 ·rw [if_neg hm]
  exact ⟨rfl,by simp [hm]⟩
section
variable {c:Cg} {n:Nat} {S:Mst} {cur:Nat→List Int} (h:Inv c n S cur)
include h
theorem fl_load (k li wd:Int) (j:Nat):Fl (loadM c S k li wd).1 j=Fl S j:=by
 unfold loadM
 cases hp:Xo c S k with
 |none=>rfl
 |some x=>
  obtain ⟨i,rfl,hj,hx,_,hP,_⟩:=h.port hp
  dsimp only
  split
  ·rename_i hl
   obtain ⟨_,b,_⟩:=hP.aj.loadF (XL.1 hl).2 wd
   exact fl_put hx j (fU_app b.kinds) rfl
  ·rfl
theorem fl_reach (k li:Int) (j:Nat):Fl (reachM c S k li).1 j=Fl S j:=by
 unfold reachM
 cases hp:Xo c S k with
 |none=>rfl
 |some x=>
  obtain ⟨i,rfl,hj,hx,_,hP,_⟩:=h.port hp
  dsimp only
  split
  ·rename_i hl
   split
   ·rfl
   ·obtain ⟨_,b⟩:=hP.aj.reachF (XL.1 hl).2
    exact fl_put hx j (fU_app b.kinds) rfl
  ·rfl
theorem fl_store (k li wd v:Int) (j:Nat):Fl (storeM c S k li wd v).1 j=Fl S j:=by
 unfold storeM
 cases hp:Xo c S k with
 |none=>rfl
 |some x=>
  obtain ⟨i,rfl,hj,hx,_,hP,_⟩:=h.port hp
  dsimp only
  split
  ·rename_i hl
   obtain ⟨_,b⟩:=hP.aj.storeF (XL.1 hl).2 wd v
   refine fl_put hx j (fU_app ?_) rfl
   rcases b with ⟨_,_,_,_,b,_⟩|⟨_,b⟩
   ·rw [b];simp
   ·exact b.kinds
  ·rfl
theorem fl_evict (k li:Int) (j:Nat):Fl (evictM c S k li).1 j=Fl S j:=by
 unfold evictM
 cases hp:Xo c S k with
 |none=>rfl
 |some x=>
  obtain ⟨i,rfl,hj,hx,_,hP,_⟩:=h.port hp
  dsimp only
  split
  ·rename_i hl
   obtain ⟨_,b⟩:=hP.aj.evictF li
   exact fl_put hx j (fU_app b.kinds) rfl
  ·rfl
theorem fl_flush (k:Nat) (li kd:Int) (j:Nat):Fl (flushM c S (k:Int) li kd).1 j=Fl S j+(if (flushM c S (k:Int) li kd).2.e=0∧k=j then 1 else 0):=by
 unfold flushM
 cases hp:Xo c S (k:Int) with
 |none=>simp [didE]
 |some x=>
  obtain ⟨i,hi,hj,hx,_,hP,_⟩:=h.port hp
  obtain rfl:k=i:=by omega
  dsimp only
  split
  ·rename_i hl
   unfold Fl Mst.put
   simp only [Int.toNat_natCast]
   rw [YV (ps_lt hx)]
   by_cases e:k=j
   ·subst e
    rw [if_pos rfl,if_pos ⟨rfl,rfl⟩,JB hx]
    have:fU {x with up:=x.up++[ms4 kd li false false]}=fU x+1:=by
     unfold fU
     rw [List.countP_append]
     have:decide (4≤(ms4 kd li false false).kd)=true:=by
      show decide (4≤kd)=true
      rcases hl.2 with h|h<;>rw [h]<;>rfl
     simp [this]
    rw [this]
    show fU x+1+fE S.en k+fD x=_
    omega
   ·rw [if_neg (fun e'=>e e'.symm),if_neg (fun e'=>e e'.2)]
    rfl
  ·simp [didE]
theorem fl_up (k:Int) (j:Nat) (hj:j<c.co):Fl (upM c S k).1 j=Fl S j:=by
 unfold upM
 cases hp:Xo c S k with
 |none=>rfl
 |some x=>
  obtain ⟨i,rfl,hi,hx,hat,hP,_⟩:=h.port hp
  dsimp only
  cases hu:x.up with
  |nil=>rfl
  |cons m rest=>
   obtain ⟨q,e,hq,hqc,he,hc⟩:=h.up hi hx hu
   have eq:q=m.li.toNat:=by omega
   subst eq
   dsimp only
   rw [he]
   dsimp only
   rcases hc with ⟨_,h2⟩|⟨h0,o,a,e',h2,ha,ho,h3⟩
   ·rw [h2,if_neg (by decide)]
   ·rw [h2,if_pos rfl]
    have hlen:(S.ps.set (i:Int).toNat {x with up:=rest}).length=c.co:=by rw [List.length_set];exact h.co
    obtain ⟨s1,s2⟩:=fl_sent hlen ho j hj (a:=a)
    unfold Fl
    dsimp only
    rw [s1,s2,if_neg (fun e=>ha.2.2.2 e.2),Nat.add_zero]
    simp only [Int.toNat_natCast]
    obtain ⟨_,m2,_⟩:=hP.fu m (by rw [hu];simp)
    have hfe:=fE_set (e':=e') he j
    have hfb:flB e j=false:=Qdu (by omega) (by omega) j
    have hfd:flB e' j=(decide (4≤m.kd)&&decide (i=j)):=by
     have hb0:(Qci e (lnG S.X m.li.toNat) (Qbl _ _)).bu=0:=by rw [(hereP_bu _ _ _).1];exact h0
     have h4:=congrArg (fun z=>z.1.1) h2
     unfold askE at h4
     unfold askE at h2
     split at h2
     ·rename_i hA
      rw [if_pos hA] at h4
      split at h2
      ·injection h2 with _ h2;cases h2
      ·rename_i hB
       rw [if_neg hB] at h4
       split at h2
       ·injection h2 with _ h2;cases h2
       ·rename_i hC
        rw [if_neg hC] at h4
        dsimp only at h4
        rw [←h4]
        exact deed_fl hb0 i m2 j
     ·injection h2 with _ h2;cases h2
    rw [hfb,hfd] at hfe
    rw [YV (ps_lt hx)]
    have hcount:fU x=fU {x with up:=rest}+(if 4≤m.kd then 1 else 0):=by
     unfold fU
     rw [hu,List.countP_cons]
     simp
    by_cases e1:j=i
    ·subst e1
     rw [if_pos rfl,hat]
     have:fD {x with up:=rest}=fD x:=rfl
     rw [this,hcount]
     by_cases e4:4≤m.kd
     ·simp [e4] at hfe ⊢;omega
     ·simp [e4] at hfe ⊢;omega
    ·rw [if_neg e1]
     have:¬i=j:=fun e=>e1 e.symm
     simp [this] at hfe
     omega
theorem fl_answer (k:Int) (j:Nat) (hj:j<c.co):Fl (answerM c S k).1 j=Fl S j:=by
 unfold answerM
 cases hp:Xo c S k with
 |none=>rfl
 |some x=>
  obtain ⟨i,rfl,hi,hx,hat,hP,_⟩:=h.port hp
  dsimp only
  cases hu:x.an with
  |nil=>rfl
  |cons m rest=>
   obtain ⟨q,e,hq,hqc,he,o,a,e',h2,ha,ho,_⟩:=h.answer hi hx hu
   dsimp only
   rw [hq,Int.toNat_natCast,he]
   dsimp only
   rw [h2,if_pos rfl]
   have hlen:(S.ps.set (i:Int).toNat {x with an:=rest}).length=c.co:=by rw [List.length_set];exact h.co
   obtain ⟨s1,s2⟩:=fl_sent hlen ho j hj (a:=a)
   unfold Fl
   dsimp only
   simp only [Int.toNat_natCast] at s1 s2 ⊢
   rw [s1,s2,if_neg (fun e=>ha.2.2.2 e.2),Nat.add_zero,fE_same he (ans_fl h2 j),YV (ps_lt hx)]
   by_cases e1:j=i
   ·subst e1
    rw [if_pos rfl,hat]
    rfl
   ·rw [if_neg e1]
theorem hear_parts (k:Nat):((hearM c S (k:Int)).2.e≠0∧(hearM c S (k:Int)).1=S)∨∃x m rest s' an',k<c.co∧S.ps[k]? =some x∧x.dn=m::rest∧(hearM c S (k:Int)).2.e=0∧(hearM c S (k:Int)).2.m=m∧(hearM c S (k:Int)).1=S.put (k:Int) {x with s:=s',an:=an',dn:=rest}:=by
 unfold hearM
 cases hp:Xo c S (k:Int) with
 |none=>exact .inl ⟨show (1:Int)≠0 by decide,rfl⟩
 |some x=>
  obtain ⟨i,hi,hj,hx,hat,hP,_⟩:=h.port hp
  obtain rfl:k=i:=by omega
  dsimp only
  cases hd:x.dn with
  |nil=>exact .inl ⟨show (14:Int)≠0 by decide,rfl⟩
  |cons m rest=>
   obtain ⟨_,h2,_⟩:=h.hear hj hx hd
   dsimp only
   rw [h2,if_pos rfl]
   exact .inr ⟨x,m,rest,_,_,hj,hx,hd,rfl,rfl,rfl⟩
theorem fl_hear (k:Nat) (j:Nat):Fl (hearM c S (k:Int)).1 j+(if (hearM c S (k:Int)).2.e=0∧(hearM c S (k:Int)).2.m.kd=14∧k=j then 1 else 0)=Fl S j:=by
 rcases hear_parts h k with ⟨h1,h2⟩|⟨x,m,rest,s',an',_,hx,hd,h0,hm,hS⟩
 ·rw [h2,if_neg (fun e=>h1 e.1)];rfl
 ·rw [hS,hm,h0]
  unfold Fl Mst.put
  simp only [Int.toNat_natCast]
  rw [YV (ps_lt hx)]
  have hcount:fD x=fD {x with s:=s',an:=an',dn:=rest}+(if m.kd=14 then 1 else 0):=by
   unfold fD
   rw [hd,List.countP_cons]
   simp
  by_cases e1:k=j
  ·subst e1
   rw [if_pos rfl,JB hx]
   show fU x+fE S.en k+fD {x with s:=s',an:=an',dn:=rest}+_=_
   rw [hcount]
   by_cases e14:m.kd=14
   ·simp [e14];omega
   ·simp [e14]
  ·rw [if_neg (fun e=>e1 e.symm)]
   simp [e1]
theorem fl_push (li:Int) (j:Nat) (hj:j<c.co):Fl (pushM c S li).1 j=Fl S j:=by
 unfold pushM
 split
 ·rename_i hl
  obtain ⟨e,he,_⟩:=h.entry (i:=li.toNat) (by have:=XL.1 hl;omega)
  rw [he]
  dsimp only
  split
  ·rename_i hr
   split
   ·obtain ⟨hb1,hb2,_,_⟩:=h.push (by have:=XL.1 hl;omega) he hr
    have ho:∀q:Nat,q<8→hasM (bitM e.by_) q=true→q<c.co:=by
     intro q _ hq
     rw [Yk _ hb1] at hq
     have:=of_decide_eq_true hq
     omega
    obtain ⟨s1,s2⟩:=fl_sent h.co ho j hj (a:=ms4 14 li false false)
    unfold Fl
    dsimp only
    rw [s1,s2,Yk _ hb1]
    have hfe:=fE_set (e':=(Js e).setDi false) he j
    rw [Qdu (e:=(Js e).setDi false) (show (0:Int)≠4 by decide) (show (0:Int)≠5 by decide)] at hfe
    have hbu:(e.bu==4||e.bu==5)=true:=by
     simp only [Jy,Bool.and_eq_true] at hr
     exact hr.1.2
    have hfb:flB e j=decide (e.by_=(j:Int)):=by
     unfold flB
     rw [hbu,Bool.true_and]
     rfl
    rw [hfb] at hfe
    have h14:(ms4 14 li false false).kd=14:=rfl
    by_cases hby:e.by_=(j:Int)
    ·simp [hby,h14] at hfe ⊢;omega
    ·simp [hby] at hfe ⊢;omega
   ·rfl
  ·rfl
 ·rfl
theorem fl_drop (li:Int) (j:Nat):Fl (dropM c S li).1 j=Fl S j:=by
 unfold dropM
 split
 ·rename_i hl
  obtain ⟨e,he,_⟩:=h.entry (i:=li.toNat) (by have:=XL.1 hl;omega)
  rw [he]
  dsimp only
  split
  ·rfl
  ·rename_i hk
   split
   ·unfold Fl
    dsimp only
    rw [fE_same he]
    rw [Qdu (e:=enE) (by decide) (by decide),Qdu]
    ·intro e4;apply hk;simp [Qdg,e4]
    ·intro e5;apply hk;simp [Qdg,e5]
   ·rfl
 ·rfl
theorem fl_drain (li:Int) (j:Nat):Fl (drainM c S li).1 j=Fl S j:=by
 unfold drainM
 split<;>rfl
end
theorem fl_fresh (c:Cg) (xs:List Int) (es:List Ent) (j:Nat):Fl ⟨List.replicate c.co (pt0 c),List.replicate c.li enE,es,xs⟩ j=0:=by
 unfold Fl
 have h1:fE (List.replicate c.li enE) j=0:=by
  unfold fE
  rw [List.countP_eq_zero]
  intro e he
  rw [List.eq_of_mem_replicate he,Qdu (by decide) (by decide)]
  decide
 have h2:fU (atP (List.replicate c.co (pt0 c)) j)=0∧fD (atP (List.replicate c.co (pt0 c)) j)=0:=by
  unfold atP
  rw [List.getD_eq_getElem?_getD,List.getElem?_replicate]
  split<;>exact ⟨rfl,rfl⟩
 dsimp only
 rw [h1,h2.1,h2.2]
theorem Qfm (b:Nat):∀(n:Nat) (l:List Ms),(∀m∈l,0≤m.li∧m.li<(n:Int))→(∀i,i<n→(l.filter (fun m=>m.li==(i:Int))).length≤b)→l.length≤n*b
 |0,l,h,_=>by
  cases l with
  |nil=>simp
  |cons m l=>have:=h m (by simp);omega
 |n+1,l,h,hb=>by
  have e:=List.length_eq_countP_add_countP (fun m:Ms=>m.li==(n:Int)) (l:=l)
  rw [List.countP_eq_length_filter,List.countP_eq_length_filter] at e
  have h1:=hb n (by omega)
  have h2:=Qfm b n (l.filter (fun m=>!(m.li==(n:Int)))) (fun m hm=>by
   rw [List.mem_filter] at hm
   have:=h m hm.1
   have h3:=hm.2
   simp at h3
   push_cast at this
   omega) (fun i hi=>by
   rw [List.filter_filter]
   refine Nat.le_trans ?_ (hb i (by omega))
   have:(fun m:Ms=>(m.li==(i:Int)&&!(m.li==(n:Int))))=(fun m:Ms=>m.li==(i:Int)):=by
    funext m
    by_cases hmi:m.li=(i:Int)
    ·have:m.li≠(n:Int):=by omega
     simp [hmi];omega
    ·simp [hmi]
   rw [this]
   exact Nat.le_refl _)
  have h3:(fun m:Ms=>decide ¬(m.li==(n:Int))=true)=(fun m:Ms=>!(m.li==(n:Int))):=by
   funext m
   cases m.li==(n:Int)<;>rfl
  rw [h3] at e
  rw [Nat.add_mul,Nat.one_mul]
  omega
theorem Rel.lens {cur el:List Int} {kt:Int} {ow sh w:Bool} {b st:Nat} {l:List Int} {U N D:List Ms} (h:Rel cur el kt ow sh w b st l U N D):U.length≤1∧N.length≤1∧D.length≤2:=by
 have hB:∀{ow sh:Bool} {b st:Nat} {l:List Int} {U D:List Ms},Bs cur el ow sh b st l U D→U.length≤1∧D.length≤1:=by
  intro ow sh b st l U D h
  cases h<;>exact ⟨by simp,by simp⟩
 have hI:∀{st:Nat} {U:List Ms},InU st U→U.length≤1:=by intro st U h;cases h<;>simp
 have hK:∀{st:Nat} {l U:_},KeU cur st l U→U.length≤1:=by intro st l U h;cases h<;>simp
 cases h with
 |base h=>have:=hB h;exact ⟨this.1,by simp,by omega⟩
 |told a h=>have:=hB h;exact ⟨this.1,by simp,by rw [List.length_append,List.length_singleton];omega⟩
 |ack a h=>
  refine ⟨?_,by simp,by simp⟩
  cases h with
  |inv _ _ _ _ _ _ _ _ _ _ hU=>exact hI hU
  |dnK _ _ _ _ _ _ _ hU=>exact hK hU
  |dnG=>simp
theorem Roomy.ofFl {c:Cg} {n:Nat} {S:Mst} {cur:Nat→List Int} (h:Inv c n S cur) (hF:∀j,j<c.co→Fl S j≤100):Roomy c S:=by
 intro j hj
 have hP:=h.pt j hj
 have h64:=h.ok.li64
 have hfl:=hF j hj
 have hrel:∀i,i<c.li→(upL (atP S.ps j) i).length≤1∧(anL (atP S.ps j) i).length≤1∧(dnL (atP S.ps j) i).length≤2:=by
  intro i hi
  obtain ⟨e,he,hl⟩:=h.entry hi
  exact (hl.rel j hj).lens
 have b0:∀{m:Ms},mg m=true→m.li<c.li→0≤m.li∧m.li<((c.li:Nat):Int):=fun hm hl=>⟨(mg_line hm).1,hl⟩
 have hup:((atP S.ps j).up.filter (fun m=>decide (m.kd≤3))).length≤c.li*1:=by
  refine Qfm 1 c.li _ (fun m hm=>?_) (fun i hi=>?_)
  ·obtain ⟨h1,_,h3⟩:=hP.fu m (List.mem_filter.1 hm).1
   exact b0 h1 h3
  ·rw [List.filter_filter];exact (hrel i hi).1
 have han:(atP S.ps j).an.length≤c.li*1:=by
  refine Qfm 1 c.li _ (fun m hm=>?_) (fun i hi=>(hrel i hi).2.1)
  obtain ⟨h1,_,h3⟩:=hP.fa m hm
  exact b0 h1 h3
 have hdn:((atP S.ps j).dn.filter (fun m=>m.kd !=14)).length≤c.li*2:=by
  refine Qfm 2 c.li _ (fun m hm=>?_) (fun i hi=>?_)
  ·obtain ⟨h1,_,h3⟩:=hP.fd m (List.mem_filter.1 hm).1
   exact b0 h1 h3
  ·rw [List.filter_filter];exact (hrel i hi).2.2
 have e1:=List.length_eq_countP_add_countP (fun m:Ms=>decide (m.kd≤3)) (l:=(atP S.ps j).up)
 have e2:=List.length_eq_countP_add_countP (fun m:Ms=>m.kd !=14) (l:=(atP S.ps j).dn)
 have f1:(atP S.ps j).up.countP (fun m=>decide ¬decide (m.kd≤3)=true)=fU (atP S.ps j):=by
  unfold fU
  apply List.countP_congr
  intro m _
  simp
  omega
 have f2:(atP S.ps j).dn.countP (fun m=>decide ¬(m.kd !=14)=true)=fD (atP S.ps j):=by
  unfold fD
  apply List.countP_congr
  intro m _
  simp
 rw [f1,List.countP_eq_length_filter] at e1
 rw [f2,List.countP_eq_length_filter] at e2
 unfold Fl at hfl
 omega
end
section
section
variable {c:Cg} {n:Nat} {S:Mst} {cur:Nat→List Int} (h:Inv c n S cur)
include h
theorem Inv.reads {j:Nat} (hj:j<c.co) {li:Int} (hs:(vw (atP S.ps j).s li).1=1∨(vw (atP S.ps j).s li).1=2∨(vw (atP S.ps j).s li).1=3∨(vw (atP S.ps j).s li).1=6):
 ∃(i:Nat) (e:En),li=(i:Int)∧i<c.li∧S.en[i]? =some e∧(vw (atP S.ps j).s li).2=cur i∧(e.ow=(j:Int)∨hasM e.sh j=true)∧(((vw (atP S.ps j).s li).1=2∨(vw (atP S.ps j).s li).1=3)→e.ow=(j:Int))∧∀p:Nat,e.ow=(p:Int)→e.sh=0#8:=by
 have hp:=h.pt j hj
 obtain ⟨l0,l1,_,_⟩:=hp.aj.line (li:=li) (by omega)
 obtain ⟨i,rfl⟩:∃i:Nat,li=(i:Int):=⟨li.toNat,by omega⟩
 obtain ⟨e,he,hl⟩:=h.entry (i:=i) (by omega)
 have hr:=hl.rel j hj
 have hst:vst (atP S.ps j) i=1∨vst (atP S.ps j) i=2∨vst (atP S.ps j) i=3∨vst (atP S.ps j) i=6:=by unfold vst;omega
 obtain ⟨a,b,d⟩:=hr.reads hst
 refine ⟨i,e,rfl,by omega,he,a,?_,fun h2=>?_,fun p hp=>(LI.ow_ne hl hp).2.1⟩
 ·rcases b with b|b
  ·exact .inl (by simpa using b)
  ·exact .inr b
 ·have:=d (by unfold vst;omega)
  simpa using this
theorem Inv.loadHit (k li wd:Int) (hh:(Go.Proofs.YtlidfghgjjffaaaGreatDoor.loadM c S k li wd).2.hit=true):inB k c.co=true∧inB li c.li=true∧isWd wd=true∧(Go.Proofs.YtlidfghgjjffaaaGreatDoor.loadM c S k li wd).2.v=(cur li.toNat).getD wd.toNat 0:=by
 unfold Go.Proofs.YtlidfghgjjffaaaGreatDoor.loadM at hh ⊢
 cases hp:Xo c S k with
 |none=>rw [hp] at hh;exact absurd (show false=true from hh) (by decide)
 |some x=>
  rw [hp] at hh
  obtain ⟨j,rfl,hj,hx,hat,hP,hb⟩:=h.port hp
  dsimp only at hh ⊢
  by_cases hl:inB li c.li=true
  ·rw [if_pos hl] at hh ⊢
   obtain ⟨_,_,hv⟩:=hP.aj.loadF (XL.1 hl).2 wd
   obtain ⟨m1,m2,m3,m4⟩:=hv hh
   have hst:(vw (atP S.ps j).s li).1=1∨(vw (atP S.ps j).s li).1=2∨(vw (atP S.ps j).s li).1=3∨(vw (atP S.ps j).s li).1=6:=by
    rw [hat]
    unfold mayR at m1
    rw [Bool.or_eq_true,rest_iff,beq_iff_eq] at m1
    omega
   obtain ⟨i,e,rfl,_,_,q,_⟩:=h.reads hj hst
   rw [hat] at q
   refine ⟨hb,hl,m2,?_⟩
   rw [Int.toNat_natCast,←q]
   exact m4
  ·rw [if_neg hl] at hh
   exact absurd (show false=true from hh) (by decide)
end
theorem bk_cell {xs:List Int} {k:Nat} {v:Int} (h:xs[k]? =some v) (r:List Value):(bk xs r)[k]? =some (.int .u64 v):=by
 obtain ⟨hk,rfl⟩:=Vg h
 unfold bk
 rw [List.getElem?_toArray,List.getElem?_append_left (by simpa using hk),List.getElem?_map,h];rfl
end
section
def NN (cur:Nat→List Int):Prop:=∀i,∀x∈cur i,0≤x
structure PosC (Q:Co):Prop where
 rg:∀x∈Q.rg,0≤x
 es:∀e∈Q.es,0≤e.va
theorem Qc0 (x:Int):0≤IntKind.u64.wrap x:=by
 have:IntKind.u64.wrap x=x % 18446744073709551616:=by simp [IntKind.wrap,IntKind.bits,IntKind.signed]
 omega
theorem and_pos (x y:Int):0≤bits .and .u64 x y:=Qc0 _
theorem xor_pos (x y:Int):0≤bits .xor .u64 x y:=Qc0 _
theorem Qe8 (op:Int) {b c:Int} (hb:0≤b):0≤doV op b c:=by
 unfold doV
 split
 ·exact Qc0 _
 split
 ·exact Qc0 _
 split
 ·exact and_pos _ _
 split
 ·exact xor_pos _ _
 split
 ·exact Qc0 _
 split
 ·exact Int.ediv_nonneg hb (Int.pow_nonneg (by omega))
 ·omega
theorem getD_pos {l:List Int} (h:∀x∈l,0≤x) (i:Nat):0≤l.getD i 0:=by
 rw [List.getD_eq_getElem?_getD]
 cases e:l[i]? with
 |none=>simp
 |some x=>exact h x (List.mem_of_getElem? e)
theorem PosC.reg {Q:Co} (h:PosC Q) (r:Int):0≤regA Q r:=getD_pos h.rg _
theorem PosC.setR {Q:Co} (h:PosC Q) (r:Int) {v:Int} (hv:0≤v):PosC (setR Q r v):=by
 refine ⟨fun x hx=>?_,h.es⟩
 rcases List.mem_or_eq_of_mem_set hx with h1|rfl
 ·exact h.rg x h1
 ·exact hv
theorem PosC.next {Q:Co} (h:PosC Q):PosC (YM Q):=⟨h.rg,h.es⟩
theorem PosC.stop {Q:Co} (h:PosC Q):PosC (Qfc Q):=⟨h.rg,h.es⟩
theorem PosC.read {Q:Co} (h:PosC Q) (u:Int):PosC (QO Q u):=⟨h.rg,h.es⟩
theorem fdO_mem {es:List Se} {li wo:Int} {e:Se} (h:fdO es li wo=some e):e∈es:=by
 unfold fdO at h
 have:=List.mem_of_find?_eq_some h
 simpa using this
theorem loadF_miss {N M:Nat} {s:Sta} {li k:Int} (h:(loadF N M s li k).2.2.1=false):0≤(loadF N M s li k).2.1:=by
 unfold loadF at h ⊢
 split
 ·rename_i h1
  rw [if_pos h1] at h
  split
  ·rename_i h2
   rw [if_pos h2] at h
   cases h
  ·split<;>exact Int.le_refl _
 ·exact Int.le_refl _
structure Went (c:Cg) (n:Nat) (D:Qgu) (Q:Co) (cur':Nat→List Int):Prop where
 inv:Inv c n D.S cur'
 nn:NN cur'
 pos:PosC D.Q
 id:D.Q.id=Q.id
 rm:D.Q.rm=Q.rm
 wt:D.Q.wt=Q.wt
 es:D.Q.es.length≤max Q.es.length Q.rm
 calm:∀e∈D.ev,e.kd=7∨e.kd=4→Q.es=[]∧Q.wt=0
section
variable {c:Cg} {n:Nat} {S:Mst} {cur:Nat→List Int} (h:Inv c n S cur) (hN:NN cur)
include h hN
theorem NN.load {k li wd:Int} (hh:(loadM c S k li wd).2.hit=true):0≤(loadM c S k li wd).2.v:=by
 rw [(h.loadHit k li wd hh).2.2.2]
 exact getD_pos (hN _) _
theorem loadV_pos (k li wo:Int):0≤(loadM c S k li wo).2.v:=by
 cases hh:(loadM c S k li wo).2.hit
 ·unfold loadM at hh ⊢
  cases hp:Xo c S k with
  |none=>exact Int.le_refl _
  |some x=>
   rw [hp] at hh
   dsimp only at hh ⊢
   split
   ·rename_i h1
    rw [if_pos h1] at hh
    exact loadF_miss hh
   ·exact Int.le_refl _
 ·exact NN.load h hN hh
theorem NN.store {k li wd v:Int} (hv:0≤v):∃cur',Inv c (n+1) (storeM c S k li wd v).1 cur'∧NN cur':=by
 refine ⟨_,(h.storeM k li wd v).1,?_⟩
 split
 ·intro i x hx
  dsimp only at hx
  split at hx
  ·rcases List.mem_or_eq_of_mem_set hx with h1|rfl
   ·exact hN i x h1
   ·exact hv
  ·exact hN i x hx
 ·exact hN
variable {Q:Co} (hQ:PosC Q)
include hQ
theorem YE {Q':Co} {l:List Ev} (m:Nat) (hp:PosC Q') (h1:Q'.id=Q.id) (h2:Q'.rm=Q.rm) (h3:Q'.wt=Q.wt) (h4:Q'.es=Q.es) (hl:∀e∈l,e.kd=7∨e.kd=4→Q.es=[]∧Q.wt=0):Went c (n+m) ⟨S,Q',l⟩ Q cur:=
 have _:=hQ
 ⟨h.mono (by omega),hN,hp,h1,h2,h3,by rw [h4];omega,hl⟩
theorem went_load (a li wo:Int):∃cur',Went c (n+2) (Qgg c S Q a li wo) Q cur':=by
 unfold Qgg
 split
 ·rename_i e he
  exact ⟨cur,YE h hN hQ 2 (hQ.setR a (hQ.es e (fdO_mem he))).next rfl rfl rfl rfl (by intro e he hk;simp only [List.mem_singleton] at he;subst he;rcases hk with hk|hk<;>cases hk)⟩
 ·split
  ·rename_i hh
   exact ⟨cur,(h.loadM _ _ _).mono (by omega),hN,(hQ.setR a (NN.load h hN hh)).next,rfl,rfl,rfl,Nat.le_max_left _ _,by intro e he hk;simp only [List.mem_singleton] at he;subst he;rcases hk with hk|hk<;>cases hk⟩
  ·exact ⟨cur,(h.loadM _ _ _).mono (by omega),hN,hQ,rfl,rfl,rfl,Nat.le_max_left _ _,by intro e he;cases he⟩
theorem went_put (kd:Int) (e:Se) (hk:kd≠7∧kd≠4) (he:0≤e.va):Went c (n+2) (putC S Q kd e) Q cur:=by
 unfold putC
 split
 ·rename_i h0
  refine ⟨h.mono (by omega),hN,⟨hQ.rg,?_⟩,rfl,rfl,rfl,?_,?_⟩
  ·show ∀x∈sbE Q.rm Q.es e,0≤x.va
   intro x hx
   unfold sbE at hx
   split at hx
   ·split at hx
    ·exact hQ.es x hx
    ·rcases List.mem_append.1 hx with h1|h1
     ·exact hQ.es x h1
     ·simp only [List.mem_singleton] at h1;subst h1;exact he
   ·exact hQ.es x hx
  ·show (sbE Q.rm Q.es e).length≤_
   unfold sbE
   split
   ·split
    ·omega
    ·rw [List.length_append,List.length_singleton];omega
   ·omega
  ·intro x hx hk2
   simp only [List.mem_singleton] at hx
   subst hx
   rcases hk2 with h2|h2
   ·exact absurd h2 hk.1
   ·exact absurd h2 hk.2
 ·exact YE h hN hQ 2 hQ rfl rfl rfl rfl (by intro e he;cases he)
theorem Qh3:YQ Q=true↔Q.es=[]∧Q.wt=0:=by
 have _:=h
 have _:=hN
 have _:=hQ
 unfold YQ
 simp
theorem reach_hit {k li:Int} (hh:(reachM c S k li).2.hit=true):(reachM c S k li).1=S:=by
 have _:=h
 have _:=hN
 have _:=hQ
 unfold reachM at hh ⊢
 cases hp:Xo c S k with
 |none=>rfl
 |some x=>
  rw [hp] at hh
  dsimp only at hh ⊢
  split
  ·split
   ·rfl
   ·rename_i h1 h2
    rw [if_pos h1,if_neg h2] at hh
    cases hh
  ·rfl
theorem chgV_pos (i:Ins) {old:Int}:0≤chgV Q i old:=by
 have _:=h
 have _:=hN
 unfold chgV
 split
 ·exact hQ.reg _
 ·exact Qc0 _
theorem went_change (i:Ins) (li wo:Int):∃cur',Went c (n+2) (Qa9 c S Q i li wo) Q cur':=by
 unfold Qa9
 split
 ·rename_i h0
  have hs:=(Qh3 h hN hQ).1 h0
  split
  ·rename_i hr
   rw [reach_hit h hN hQ hr]
   have hl:=h.loadM Q.id li wo
   have hv:0≤(loadM c S Q.id li wo).2.v:=loadV_pos h hN _ _ _
   split
   ·obtain ⟨cur',h1,h2⟩:=NN.store hl hN (k:=Q.id) (li:=li) (wd:=wo) (v:=chgV Q i (loadM c S Q.id li wo).2.v) (chgV_pos h hN hQ i)
    exact ⟨cur',h1,h2,(hQ.setR _ hv).next,rfl,rfl,rfl,Nat.le_max_left _ _,fun _ _ _=>hs⟩
   ·exact ⟨cur,hl.next,hN,(hQ.setR _ hv).next,rfl,rfl,rfl,Nat.le_max_left _ _,fun _ _ _=>hs⟩
  ·exact ⟨cur,(h.reachM _ _).next,hN,hQ,rfl,rfl,rfl,Nat.le_max_left _ _,by intro e he;cases he⟩
 ·exact ⟨cur,YE h hN hQ 2 hQ rfl rfl rfl rfl (by intro e he;cases he)⟩
theorem ev_not {k li wo va:Int} (hk:k≠7∧k≠4):∀e∈[evC Q k li wo va],e.kd=7∨e.kd=4→Q.es=[]∧Q.wt=0:=by
 intro e he h2
 have _:=h
 have _:=hN
 have _:=hQ
 simp only [List.mem_singleton] at he
 subst he
 rcases h2 with h2|h2
 ·exact absurd h2 hk.1
 ·exact absurd h2 hk.2
theorem went_access (i:Ins):∃cur',Went c (n+2) (Xw c S Q i) Q cur':=by
 unfold Xw
 split
 ·split
  ·exact went_load h hN hQ _ _ _
  split
  ·exact ⟨cur,went_put h hN hQ 12 _ (by decide) (hQ.reg _)⟩
  split
  ·exact went_change h hN hQ _ _ _
  ·exact ⟨cur,went_put h hN hQ 14 _ (by decide) (Int.le_refl _)⟩
 ·exact ⟨cur,YE h hN hQ 2 hQ.stop rfl rfl rfl rfl (ev_not h hN hQ (by decide))⟩
theorem went_ins (i:Ins):∃cur',Went c (n+2) (insC c S Q i) Q cur':=by
 have nil:∀e∈([]:List Ev),e.kd=7∨e.kd=4→Q.es=[]∧Q.wt=0:=by intro e he;cases he
 unfold insC
 split
 ·exact ⟨cur,YE h hN hQ 2 hQ.next rfl rfl rfl rfl nil⟩
 split
 ·exact ⟨cur,YE h hN hQ 2 (hQ.setR _ (Qc0 _)).next rfl rfl rfl rfl nil⟩
 split
 ·exact ⟨cur,YE h hN hQ 2 (hQ.setR _ (Qe8 _ (hQ.reg _))).next rfl rfl rfl rfl nil⟩
 split
 ·split
  ·exact ⟨cur,YE h hN hQ 2 ⟨hQ.rg,hQ.es⟩ rfl rfl rfl rfl nil⟩
  ·exact ⟨cur,YE h hN hQ 2 hQ.next rfl rfl rfl rfl nil⟩
 split
 ·exact ⟨cur,YE h hN hQ 2 hQ.next rfl rfl rfl rfl (ev_not h hN hQ (by decide))⟩
 split
 ·exact ⟨cur,YE h hN hQ 2 hQ.stop rfl rfl rfl rfl (ev_not h hN hQ (by decide))⟩
 split
 ·split
  ·rename_i h0
   exact ⟨cur,YE h hN hQ 2 hQ.next rfl rfl rfl rfl (fun _ _ _=>(Qh3 h hN hQ).1 h0)⟩
  ·exact ⟨cur,YE h hN hQ 2 hQ rfl rfl rfl rfl nil⟩
 ·exact went_access h hN hQ i
theorem went_exec:∃cur',Went c (n+2) (Qb2 c S Q) Q cur':=by
 unfold Qb2
 split
 ·split
  ·exact ⟨cur,YE h hN hQ 2 hQ.stop rfl rfl rfl rfl (ev_not h hN hQ (by decide))⟩
  ·rename_i u b he
   split
   ·obtain ⟨cur',w⟩:=went_ins h hN (hQ.read u) (Qz u)
    exact ⟨cur',w.inv,w.nn,w.pos,w.id,w.rm,w.wt,w.es,w.calm⟩
   ·exact ⟨cur,YE h hN hQ 2 (hQ.read u).stop rfl rfl rfl rfl (ev_not h hN hQ (by decide))⟩
 ·exact ⟨cur,YE h hN hQ 2 hQ rfl rfl rfl rfl (by intro e he;cases he)⟩
end
structure Left13 (c:Cg) (n:Nat) (D:Qgu) (Q:Co) (cur':Nat→List Int):Prop where
 inv:Inv c n D.S cur'
 nn:NN cur'
 pos:PosC D.Q
 id:D.Q.id=Q.id
 rm:D.Q.rm=Q.rm
 wt:D.Q.wt≤max Q.wt 16
 es:D.Q.es.length≤Q.es.length
theorem left_drain {c:Cg} {n:Nat} {S:Mst} {cur:Nat→List Int} (h:Inv c n S cur) (hN:NN cur) {Q:Co} (hQ:PosC Q):∃cur',Left13 c (n+1) (JZ c S Q) Q cur':=by
 unfold JZ
 split
 ·exact ⟨cur,h.next,hN,hQ,rfl,rfl,Nat.le_max_left _ _,Nat.le_refl _⟩
 ·rename_i e rest he
  have hp:PosC {Q with es:=rest}:=⟨hQ.rg,fun x hx=>hQ.es x (by rw [he];exact List.mem_cons_of_mem _ hx)⟩
  have hv:0≤e.va:=hQ.es e (by rw [he];exact List.mem_cons_self)
  have hl:rest.length≤Q.es.length:=by rw [he,List.length_cons];omega
  split
  ·obtain ⟨cur',h1,h2⟩:=NN.store h hN (k:=Q.id) (li:=e.li) (wd:=e.wo) hv
   split
   ·exact ⟨cur',h1,h2,hp,rfl,rfl,Nat.le_max_left _ _,hl⟩
   ·exact ⟨cur',h1,h2,hQ,rfl,rfl,Nat.le_max_left _ _,Nat.le_refl _⟩
  split
  ·split
   ·exact ⟨cur,h.next,hN,hp,rfl,rfl,Nat.le_max_left _ _,hl⟩
   ·exact ⟨cur,h.next,hN,hQ,rfl,rfl,Nat.le_max_left _ _,Nat.le_refl _⟩
  split
  ·exact ⟨cur,h.next,hN,hQ,rfl,rfl,Nat.le_max_left _ _,Nat.le_refl _⟩
  have hf:=h.flushM Q.id e.li (JS e.kd)
  split
  ·refine ⟨cur,hf,hN,⟨hQ.rg,?_⟩,rfl,rfl,?_,?_⟩
   ·show ∀x∈(if e.kd=14 then sent e::rest else rest),0≤x.va
    intro x hx
    split at hx
    ·rcases List.mem_cons.1 hx with rfl|hx
     ·exact hv
     ·exact hp.es x hx
    ·exact hp.es x hx
   ·show Q.wt+1≤_
    omega
   ·show (if e.kd=14 then sent e::rest else rest).length≤_
    split
    ·rw [he];exact Nat.le_refl _
    ·exact hl
  ·exact ⟨cur,hf,hN,hQ,rfl,rfl,Nat.le_max_left _ _,Nat.le_refl _⟩
end
section
set_option linter.unusedSectionVars false
def MN (S:Mst):Prop:=(∀x∈S.X,0≤x)∧∀e∈S.en,∀x∈e.l,0≤x
theorem enE_pos:∀x∈enE.l,0≤x:=by decide
theorem mem_lnPut {xs l:List Int} {i:Nat} {x:Int} (h:x∈JV xs i l):x∈xs∨x∈l:=by
 unfold JV Zz at h
 simp only [List.mem_append] at h
 rcases h with (h|h)|h
 ·exact .inl (List.mem_of_mem_take h)
 ·exact .inr h
 ·exact .inl (List.mem_of_mem_drop h)
theorem mem_ln {xs:List Int} {i:Nat} {x:Int} (h:x∈ln xs i):x∈xs:=by
 unfold ln at h
 exact List.mem_of_mem_drop (List.mem_of_mem_take h)
theorem mem_lnG {xs:List Int} {i:Nat} {x:Int} (h:x∈lnG xs i):x∈xs∨x=0:=by
 unfold lnG at h
 split at h
 ·exact .inl (mem_ln h)
 ·right
  simp [zl8] at h
  exact h
theorem mem_forget {xs:List Int} {v:Nat} {x:Int} (h:x∈Jn xs v):x∈xs∨x=0:=by
 unfold Jn Zz at h
 simp only [List.mem_append] at h
 rcases h with (h|h)|h
 ·exact .inl (List.mem_of_mem_take h)
 ·exact .inr (List.eq_of_mem_replicate h)
 ·exact .inl (List.mem_of_mem_drop h)
theorem withoutE_l (e:En) (c:Int):(Za e c).l=e.l:=by unfold Za;split<;>rfl
theorem writtenE_l (e:En) (m:Ms):(Ze e m).l=e.l∨((Ze e m).l=m.l∧m.di=true):=by
 unfold Ze
 split
 ·rename_i h;exact .inr ⟨rfl,h⟩
 ·exact .inl rfl
theorem deed_l (e:En) (k:Int) (m:Ms):(YT e k m).1.l=e.l∨((YT e k m).1.l=m.l∧m.kd=3∧e.ow=k∧m.di=true):=by
 unfold YT
 split
 ·left
  unfold Qe3
  split
  ·rfl
  ·split<;>rfl
 split
 ·left
  unfold Qgk
  split<;>rfl
 split
 ·rename_i h3
  unfold putE
  show (Za _ k).l=_∨((Za _ k).l=_∧_)
  rw [withoutE_l]
  split
  ·rename_i ho
   rcases writtenE_l e m with h|h
   ·exact .inl h
   ·exact .inr ⟨h.1,h3,ho,h.2⟩
  ·exact .inl rfl
 split
 ·exact .inl rfl
 ·exact .inl rfl
theorem ask_l {e e':En} {k:Int} {m:Ms} {d:List Sd} (h:askE e k m=((e',d),0)):e'.l=e.l∨(e'.l=m.l∧m.kd=3∧e.ow=k∧m.di=true):=by
 unfold askE at h
 split at h
 ·split at h
  ·injection h with _ h;cases h
  ·split at h
   ·injection h with _ h;cases h
   ·injection h with h _
    have:=congrArg Prod.fst h
    dsimp only at this
    rw [←this]
    exact deed_l e k m
 ·injection h with _ h;cases h
theorem ans_l {e e':En} {k:Int} {m:Ms} {d:List Sd} (h:ansE e k m=((e',d),0)):e'.l=e.l∨(e'.l=m.l∧m.di=true):=by
 have ha:(QW e k m).l=e.l∨((QW e k m).l=m.l∧m.di=true):=by
  have h1:=withoutE_l (Ze e m) k
  have h2:=writtenE_l e m
  rw [←h1] at h2
  unfold QW
  dsimp only
  split
  ·exact h2
  ·exact h2
 unfold ansE at h
 split at h
 ·split at h
  ·split at h
   ·injection h with h _;injection h with h _
    subst h
    exact ha
   ·injection h with h _
    have h':=congrArg Prod.fst h
    dsimp only at h'
    rw [←h']
    have hs:(YP (QW e k m) m.li).1.l=(QW e k m).l:=by
     unfold YP
     split
     ·rfl
     ·split<;>rfl
    rw [hs]
    exact ha
  ·injection h with _ h;cases h
 ·injection h with _ h;cases h
section
variable {c:Cg} {n:Nat} {S:Mst} {cur:Nat→List Int} (h:Inv c n S cur) (hN:NN cur) (hM:MN S)
include hM
theorem MN.ps (ps:List Pt):MN ⟨ps,S.en,S.es,S.xs⟩:=hM
include h
theorem mn_load (k li wd:Int):MN (loadM c S k li wd).1:=by
 unfold loadM
 split
 ·exact hM
 ·split<;>exact hM
theorem mn_store (k li wd v:Int):MN (storeM c S k li wd v).1:=by
 unfold storeM
 split
 ·exact hM
 ·split<;>exact hM
theorem mn_reach (k li:Int):MN (reachM c S k li).1:=by
 unfold reachM
 split
 ·exact hM
 ·split
  ·split<;>exact hM
  ·exact hM
theorem mn_flush (k li kd:Int):MN (flushM c S k li kd).1:=by
 unfold flushM
 split
 ·exact hM
 ·split<;>exact hM
theorem mn_evict (k li:Int):MN (evictM c S k li).1:=by
 unfold evictM
 split
 ·exact hM
 ·split<;>exact hM
theorem mn_hear (k:Int):MN (hearM c S k).1:=by
 unfold hearM
 split
 ·exact hM
 ·split
  ·exact hM
  ·split<;>exact hM
theorem mn_set {i:Nat} {e':En} (he:∀x∈e'.l,0≤x) (ps:List Pt):MN ⟨ps,S.en.set i e',S.es,S.xs⟩:=by
 refine ⟨hM.1,fun e hm=>?_⟩
 rcases List.mem_or_eq_of_mem_set hm with h1|rfl
 ·exact hM.2 e h1
 ·exact he
include hN
theorem mn_up (k:Int):MN (upM c S k).1:=by
 unfold upM
 cases hp:Xo c S k with
 |none=>exact hM
 |some x=>
  obtain ⟨i,rfl,hi,hx,hat,hP,_⟩:=h.port hp
  dsimp only
  cases hu:x.up with
  |nil=>exact hM
  |cons m rest=>
   obtain ⟨q,e,hq,hqc,he,hc⟩:=h.up hi hx hu
   have eq:q=m.li.toNat:=by omega
   subst eq
   dsimp only
   rw [he]
   dsimp only
   rcases hc with ⟨_,h2⟩|⟨h0,o,a,e',h2,ha,ho,h3⟩
   ·rw [h2,if_neg (by decide)];exact hM
   ·rw [h2,if_pos rfl]
    refine mn_set h hM ?_ _
    have hl:=ask_l h2
    have hhl:∀y∈(Qci e (lnG S.X m.li.toNat) (Qbl _ _)).l,0≤y:=by
     intro y hy
     unfold Qci at hy
     split at hy
     ·exact hM.2 e (List.mem_of_getElem? he) y hy
     ·rcases mem_lnG hy with h4|h4
      ·exact hM.1 y h4
      ·omega
    rcases hl with hl|⟨hl,h3k,how,hdi⟩
    ·rw [hl];exact hhl
    ·rw [hl]
     obtain ⟨e2,he2,hLI⟩:=h.entry hqc
     rw [he] at he2
     cases he2
     have hlen:(lnG S.X m.li.toNat).length=8:=Qbl _ _
     have hX:lnG S.X m.li.toNat=ln S.X m.li.toNat:=lnG_eq (h.ln8 hqc)
     have hL1:LI c.co (cur m.li.toNat) (lnG S.X m.li.toNat) e (fun j=>vst (atP S.ps j) m.li.toNat) (fun j=>vln (atP S.ps j) m.li.toNat) (fun j=>upL (atP S.ps j) m.li.toNat) (fun j=>anL (atP S.ps j) m.li.toNat) (fun j=>dnL (atP S.ps j) m.li.toNat):=by rw [hX];exact hLI
     obtain ⟨hL2,hh,hbu⟩:=hL1.here hlen
     obtain ⟨_,_,_,hr⟩:=hL2.free hh (by rw [hbu];exact h0)
     have hr2:=hr i hi
     rw [hat,upL_cons hu m.li.toNat hq (by omega)] at hr2
     have:=(hr2.put h3k).1 (by simpa using how)
     rw [this.1 hdi]
     exact hN _
theorem mn_answer (k:Int):MN (answerM c S k).1:=by
 unfold answerM
 cases hp:Xo c S k with
 |none=>exact hM
 |some x=>
  obtain ⟨i,rfl,hi,hx,hat,hP,_⟩:=h.port hp
  dsimp only
  cases hu:x.an with
  |nil=>exact hM
  |cons m rest=>
   obtain ⟨q,e,hq,hqc,he,o,a,e',h2,ha,ho,_⟩:=h.answer hi hx hu
   dsimp only
   rw [hq,Int.toNat_natCast,he]
   dsimp only
   rw [h2,if_pos rfl]
   refine mn_set h hM ?_ _
   rcases ans_l h2 with hl|⟨hl,hdi⟩
   ·rw [hl];exact hM.2 e (List.mem_of_getElem? he)
   ·rw [hl]
    obtain ⟨e2,he2,hLI⟩:=h.entry hqc
    rw [he] at he2
    cases he2
    have hr:=hLI.rel i hi
    rw [hat,anL_cons hu q hq] at hr
    obtain ⟨_,_,_,_,_,h6,h7,_⟩:=hr.answer
    cases how:decide (e.ow=(i:Int))
    ·have:=h7 how
     rw [hdi] at this
     cases this
    ·rw [(h6 how).1 hdi]
     exact hN _
omit hN
theorem mn_save {i:Nat} (hi:i<c.li) {e e':En} (he:e∈S.en) (hl:∀x∈e'.l,0≤x) (hv:Qat c S.es i e=0) (ps:List Pt):MN ⟨ps,S.en.set i e',Ju c S.es i e,S.xs⟩:=by
 refine ⟨?_,(mn_set h hM hl ps).2⟩
 show ∀x∈over S.xs (Ju c S.es i e),0≤x
 rw [((h.saved hi e).2.2 hv).2]
 intro x hx
 split at hx
 ·rcases mem_lnPut hx with h1|h1
  ·exact hM.1 x h1
  ·exact hM.2 e he x h1
 ·exact hM.1 x hx
theorem mn_push (li:Int):MN (pushM c S li).1:=by
 unfold pushM
 split
 ·rename_i hl
  have hi:li.toNat<c.li:=by have:=XL.1 hl;omega
  obtain ⟨e,he,_⟩:=h.entry hi
  rw [he]
  dsimp only
  split
  ·split
   ·rename_i hv
    exact mn_save h hM hi (List.mem_of_getElem? he) (e':=(Js e).setDi false) (hM.2 e (List.mem_of_getElem? he)) hv _
   ·rename_i hv
    rw [(h.saved hi e).2.1 hv]
    exact hM
  ·exact hM
 ·exact hM
theorem mn_drop (li:Int):MN (dropM c S li).1:=by
 unfold dropM
 split
 ·rename_i hl
  have hi:li.toNat<c.li:=by have:=XL.1 hl;omega
  obtain ⟨e,he,_⟩:=h.entry hi
  rw [he]
  dsimp only
  split
  ·exact hM
  ·split
   ·rename_i hv
    exact mn_save h hM hi (List.mem_of_getElem? he) (e':=enE) enE_pos hv _
   ·rename_i hv
    rw [(h.saved hi e).2.1 hv]
    exact hM
 ·exact hM
theorem drain_X (li:Int):over (JW S.xs S.es li) (J4 S.es li)=S.X:=by
 by_cases hf:Qaz S.es li<S.es.length
 ·obtain ⟨e,he,hp,hb⟩:=Qgn hf
  unfold JW J4
  rw [he]
  exact over_drain S.xs h.xs h.lie he (fun x hx=>by have:=hb x hx;omega)
 ·unfold J4 JW
  rw [List.eraseIdx_of_length_le (by omega),List.getElem?_eq_none (by omega)]
  rfl
theorem mn_drain (li:Int):MN (drainM c S li).1:=by
 unfold drainM
 split
 ·refine ⟨?_,hM.2⟩
  show ∀x∈over (JW S.xs S.es li) (J4 S.es li),0≤x
  rw [drain_X h hM]
  exact hM.1
 ·exact hM
theorem mn_fail:MN (failM c S):=by
 refine ⟨?_,?_⟩
 ·intro x hx
  rcases mem_forget (show x∈Jn S.X c.vo from hx) with h1|h1
  ·exact hM.1 x h1
  ·omega
 ·intro e he x hx
  have:e=enE:=List.eq_of_mem_replicate he
  rw [this] at hx
  exact enE_pos x hx
end
end
section
attribute [local go_sem ↓] QG Qs Qk Qh heap_alloc Ql heap_setCell Qc Xd ZF loadPts Qhd Xe XK XJ XI Xg pts_0 pts_1 pts_2 pts_3 pts_4
attribute [local go_sem] Qb Qa Qe Qi Qd Qg Qf QB Qw QJ QA Qr QD QX QI Qq QC Qp Qj Qo Qn Xb widePts QE ZI Xf ZJ XH Qct Qcs Qcr Qcq Qcp pts_lit Qbd pts_one pts_ne Qhl Qhk Qhj Qhi Qhh
attribute [local simp ↓] Qk Qh heap_alloc Ql heap_setCell Qc
attribute [local simp] Qb Qa Qe Qi Qd Qg Qf Qr Qj Qo Qn QE Qbd QD
theorem igood_any (i:Ins) (w:World):Calls Tryz.prog 247 #[.agg (insc i)] w fun e w'=>e=.returned (.bool (YY i))∧Chg [] w w':=by
 have hx:(w.alloc (.cells (insc i) 65)).heap[w.heap.size]? =some (.cells (insc i) 65 (0,0)):=by simp
 have HC:=Vh ((Chg.refl [] w).alloc (.cells (insc i) 65))
 unfold YY
 cases h0:isOpB i.op
 ·go_enter Tryz.func247,Tryz.ntmps247
  go_wp2_with (go_at_call 257;refine (iisop _ _).mono ?_;rintro e w' ⟨rfl,rfl⟩)
  go_ret
  exact ⟨rfl,HC.out⟩
 have hr:0≤i.op∧i.op≤22:=by unfold isOpB at h0;simp at h0;exact h0
 have HR:=Vh hr
 clear hr
 have h1:YN i.a (hasA i.op)=true∨YN i.a (hasA i.op)=false:=by cases YN i.a (hasA i.op)<;>simp
 have h2:YN i.b (hasB i.op)=true∨YN i.b (hasB i.op)=false:=by cases YN i.b (hasB i.op)<;>simp
 have h3:YN i.c (hasC i.op)=true∨YN i.c (hasC i.op)=false:=by cases YN i.c (hasC i.op)<;>simp
 unfold JJ
 generalize ha:hasA i.op=a at *
 generalize hb:hasB i.op=b at *
 generalize hc:hasC i.op=c at *
 generalize hi:hasI i.op=d at *
 generalize hj:Qac i.op=j at *
 have HP:=Vh (fun w=>iparts_at i.op a b c d j HR.out.1 HR.out.2 ha hb hc hi hj w)
 clear ha hb hc hi hj
 rcases h1 with h1|h1
 ·rcases h2 with h2|h2
  ·rcases h3 with h3|h3
   ·rw [h1,h2,h3]
    show Calls _ _ _ _ fun e w'=>e=.returned (.bool (XR i.im d j))∧_
    have G0:=Vh (fun w=>Qbp i.a a w)
    rw [h1] at G0
    have G1:=Vh (fun w=>Qbp i.b b w)
    rw [h2] at G1
    have G2:=Vh (fun w=>Qbp i.c c w)
    rw [h3] at G2
    clear h1 h2 h3
    go_enter Tryz.func247,Tryz.ntmps247
    go_wp2_with (go_at_call 257;refine (iisop _ _).mono ?_;rintro e w' ⟨rfl,rfl⟩)
    generalize hw1:w.alloc (.cells (insc i) 65)=w1 at hx HC ⊢
    generalize hz:w.heap.size=p at hx ⊢
    refine (HP.out w1).mono ?_
    rintro e w2 ⟨rfl,c2⟩
    have hx2:=c2.keep hx (by simp)
    have HC2:=Vh (HC.out.trans c2)
    have ox:=old hx2
    have hy:(w2.alloc (.cells (pts a b c d j) 331)).heap[w2.heap.size]? =some (.cells (pts a b c d j) 331 (0,0)):=by simp
    clear c2 hx hw1 hz
    go_wp2_with (first |(go_at_call 259;(with_reducible refine (G0.out _).mono ?_);rintro e w' ⟨rfl,rfl⟩)|(go_at_call 259;(with_reducible refine (G1.out _).mono ?_);rintro e w' ⟨rfl,rfl⟩)|(go_at_call 259;(with_reducible refine (G2.out _).mono ?_);rintro e w' ⟨rfl,rfl⟩)|(go_at_call 260;refine (igoodImm _ _ _ _ _ _ _).mono ?_;rintro e w3 ⟨rfl,c3⟩))
    go_ret
    exact ⟨rfl,(HC2.out.alloc _).trans c3⟩
   ·rw [h1,h2,h3]
    show Calls _ _ _ _ fun e w'=>e=.returned (.bool (false))∧_
    have G0:=Vh (fun w=>Qbp i.a a w)
    rw [h1] at G0
    have G1:=Vh (fun w=>Qbp i.b b w)
    rw [h2] at G1
    have G2:=Vh (fun w=>Qbp i.c c w)
    rw [h3] at G2
    clear h1 h2 h3
    go_enter Tryz.func247,Tryz.ntmps247
    go_wp2_with (go_at_call 257;refine (iisop _ _).mono ?_;rintro e w' ⟨rfl,rfl⟩)
    generalize hw1:w.alloc (.cells (insc i) 65)=w1 at hx HC ⊢
    generalize hz:w.heap.size=p at hx ⊢
    refine (HP.out w1).mono ?_
    rintro e w2 ⟨rfl,c2⟩
    have hx2:=c2.keep hx (by simp)
    have HC2:=Vh (HC.out.trans c2)
    have ox:=old hx2
    have hy:(w2.alloc (.cells (pts a b c d j) 331)).heap[w2.heap.size]? =some (.cells (pts a b c d j) 331 (0,0)):=by simp
    clear c2 hx hw1 hz
    go_wp2_with (first |(go_at_call 259;(with_reducible refine (G0.out _).mono ?_);rintro e w' ⟨rfl,rfl⟩)|(go_at_call 259;(with_reducible refine (G1.out _).mono ?_);rintro e w' ⟨rfl,rfl⟩)|(go_at_call 259;(with_reducible refine (G2.out _).mono ?_);rintro e w' ⟨rfl,rfl⟩))
    go_ret
    exact ⟨rfl,HC2.out.alloc _⟩
  ·rw [h1,h2]
   show Calls _ _ _ _ fun e w'=>e=.returned (.bool (false))∧_
   have G0:=Vh (fun w=>Qbp i.a a w)
   rw [h1] at G0
   have G1:=Vh (fun w=>Qbp i.b b w)
   rw [h2] at G1
   clear h1 h2 h3
   go_enter Tryz.func247,Tryz.ntmps247
   go_wp2_with (go_at_call 257;refine (iisop _ _).mono ?_;rintro e w' ⟨rfl,rfl⟩)
   generalize hw1:w.alloc (.cells (insc i) 65)=w1 at hx HC ⊢
   generalize hz:w.heap.size=p at hx ⊢
   refine (HP.out w1).mono ?_
   rintro e w2 ⟨rfl,c2⟩
   have hx2:=c2.keep hx (by simp)
   have HC2:=Vh (HC.out.trans c2)
   have ox:=old hx2
   have hy:(w2.alloc (.cells (pts a b c d j) 331)).heap[w2.heap.size]? =some (.cells (pts a b c d j) 331 (0,0)):=by simp
   clear c2 hx hw1 hz
   go_wp2_with (first |(go_at_call 259;(with_reducible refine (G0.out _).mono ?_);rintro e w' ⟨rfl,rfl⟩)|(go_at_call 259;(with_reducible refine (G1.out _).mono ?_);rintro e w' ⟨rfl,rfl⟩))
   go_ret
   exact ⟨rfl,HC2.out.alloc _⟩
 ·rw [h1]
  show Calls _ _ _ _ fun e w'=>e=.returned (.bool (false))∧_
  have G0:=Vh (fun w=>Qbp i.a a w)
  rw [h1] at G0
  clear h1 h2 h3
  go_enter Tryz.func247,Tryz.ntmps247
  go_wp2_with (go_at_call 257;refine (iisop _ _).mono ?_;rintro e w' ⟨rfl,rfl⟩)
  generalize hw1:w.alloc (.cells (insc i) 65)=w1 at hx HC ⊢
  generalize hz:w.heap.size=p at hx ⊢
  refine (HP.out w1).mono ?_
  rintro e w2 ⟨rfl,c2⟩
  have hx2:=c2.keep hx (by simp)
  have HC2:=Vh (HC.out.trans c2)
  have ox:=old hx2
  have hy:(w2.alloc (.cells (pts a b c d j) 331)).heap[w2.heap.size]? =some (.cells (pts a b c d j) 331 (0,0)):=by simp
  clear c2 hx hw1 hz
  go_wp2_with (go_at_call 259;(with_reducible refine (G0.out _).mono ?_);rintro e w' ⟨rfl,rfl⟩)
  go_ret
  exact ⟨rfl,HC2.out.alloc _⟩
theorem or_sum (a b k:Nat) (h:b<2 ^ k) (hs:b+2 ^ k*a<18446744073709551616):bits .or .u64 (b:Int) ((2 ^ k*a:Nat):Int)=((b+2 ^ k*a:Nat):Int):=by
 rw [bits_or_u64_nat _ _ (by omega) (by omega),Nat.or_comm,←Nat.two_pow_add_eq_or_of_lt h,Nat.add_comm]
theorem or_int (x y:Int) (k:Nat) (a:Int) (hy:y=2 ^ k*a) (ha:0≤a) (h0:0≤x) (h:x<2 ^ k) (hs:x+y<18446744073709551616):bits .or .u64 x y=x+y:=by
 obtain ⟨X,rfl⟩:=Int.eq_ofNat_of_zero_le h0
 obtain ⟨A,rfl⟩:=Int.eq_ofNat_of_zero_le ha
 have e:y=((2 ^ k*A:Nat):Int):=by rw [hy];push_cast;rfl
 rw [e] at hs ⊢
 have h':X<2 ^ k:=by exact_mod_cast h
 rw [or_sum A X k h' (by omega)]
 push_cast
 rfl
theorem Qg2 (x:Int):IntKind.u64.wrap x=x % 18446744073709551616:=by simp [IntKind.wrap,IntKind.bits,IntKind.signed]
theorem code_or {i:Ins} (h:YY i=true):bits BinOp.or IntKind.u64 (bits BinOp.or IntKind.u64 (IntKind.u64.wrap i.op) (bits BinOp.or IntKind.u64 (bits BinOp.or IntKind.u64 (IntKind.u64.wrap (IntKind.u64.wrap i.a*256)) (IntKind.u64.wrap (IntKind.u64.wrap i.b*4096))) (IntKind.u64.wrap (IntKind.u64.wrap i.c*65536)))) (IntKind.u64.wrap (IntKind.u64.wrap i.im*4294967296))=JQ i:=by
 have ⟨h1,h2,h3,h4,h5⟩:=Zw h
 have ea:IntKind.u64.wrap (IntKind.u64.wrap i.a*256)=i.a*256:=by rw [Qg2,Qg2];omega
 have eb:IntKind.u64.wrap (IntKind.u64.wrap i.b*4096)=i.b*4096:=by rw [Qg2,Qg2];omega
 have ec:IntKind.u64.wrap (IntKind.u64.wrap i.c*65536)=i.c*65536:=by rw [Qg2,Qg2];omega
 have eo:IntKind.u64.wrap i.op=i.op:=by rw [Qg2];omega
 have em:IntKind.u64.wrap (IntKind.u64.wrap i.im*4294967296)=(i.im % 4294967296)*4294967296:=by rw [Qg2,Qg2];omega
 rw [ea,eb,ec,eo,em]
 rw [or_int (i.a*256) (i.b*4096) 12 i.b (by omega) (by omega) (by omega) (by omega) (by omega)]
 rw [or_int (i.a*256+i.b*4096) (i.c*65536) 16 i.c (by omega) (by omega) (by omega) (by omega) (by omega)]
 rw [or_int i.op (i.a*256+i.b*4096+i.c*65536) 8 (i.a+i.b*16+i.c*256) (by omega) (by omega) (by omega) (by omega) (by omega)]
 rw [or_int (i.op+(i.a*256+i.b*4096+i.c*65536)) (i.im % 4294967296*4294967296) 32 (i.im % 4294967296) (by omega) (by omega) (by omega) (by omega) (by omega)]
 unfold JQ
 omega
theorem iencode_bad (i:Ins) (w:World) (h:YY i=false):Calls Tryz.prog 239 #[.agg (insc i)] w fun e w'=>e=.returned (.tuple #[.int .u64 0,.int .i64 11])∧Chg [] w w':=by
 have hx:(w.alloc (.cells (insc i) 65)).heap[w.heap.size]? =some (.cells (insc i) 65 (0,0)):=by simp
 have HC:=Vh ((Chg.refl [] w).alloc (.cells (insc i) 65))
 have HG:=Vh (fun w=>igood_any i w)
 rw [h] at HG
 clear h
 go_enter Tryz.func239,Tryz.ntmps239
 go_wp2_with (go_at_call 247;refine (HG.out _).mono ?_;rintro e w2 ⟨rfl,c2⟩)
 go_ret2
 exact ⟨rfl,HC.out.trans c2⟩
theorem iencode_ok (i:Ins) (w:World) (h:YY i=true):Calls Tryz.prog 239 #[.agg (insc i)] w fun e w'=>e=.returned (.tuple #[.int .u64 (JQ i),.int .i64 0])∧Chg [] w w':=by
 have hx:(w.alloc (.cells (insc i) 65)).heap[w.heap.size]? =some (.cells (insc i) 65 (0,0)):=by simp
 have HC:=Vh ((Chg.refl [] w).alloc (.cells (insc i) 65))
 have HG:=Vh (fun w=>igood_any i w)
 rw [h] at HG
 have HP:=Vh h
 clear h
 go_enter Tryz.func239,Tryz.ntmps239
 go_wp2_with fail
 generalize hw1:w.alloc (.cells (insc i) 65)=w1 at hx HC ⊢
 generalize hz:w.heap.size=p at hx ⊢
 refine (HG.out w1).mono ?_
 rintro e w2 ⟨rfl,c2⟩
 have hx2:=c2.keep hx (by simp)
 have HC2:=Vh (HC.out.trans c2)
 clear c2 hx hw1 hz
 go_wp2_with fail
 go_ret2
 exact ⟨by rw [code_or HP.out];rfl,HC2.out⟩
theorem J7 {fn:Func} {p t:Tmp} (h:fn.results=#[.cell p 65,.tmp t]) (tmps:Array Value) (w:World) (b:Nat) (s:Ins) (fr:Nat×Nat)
 (hp:tmps.getD p undef=.pointer (some ⟨b,0,none⟩)) (hb:w.heap[b]? =some (.cells (insc s) 65 fr)) (x:Value) (hx:tmps.getD t undef=x):
 (results fn tmps).run Tryz.prog w=.ok (.tuple #[.agg (insc s),x]) w:=by
 subst hx
 have hp':tmps[p]?.getD undef=.pointer (some ⟨b,0,none⟩):=by simpa using hp
 have:=run_loadVar_row (P:=Tryz.prog) w b 65 65 (insc s) fr _ hb Tryz.underlying65 rfl (by rw [QE];kernel_rfl)
 simp [results,h,hp',asAddr,this]
theorem and_mod (u:Int) (h0:0≤u) (h64:u<18446744073709551616) (k:Nat) (hk:k<63) (m:Int) (hm:m=2 ^ k-1):bits .and .u64 u m=u % 2 ^ k:=by
 obtain ⟨U,rfl⟩:=Int.eq_ofNat_of_zero_le h0
 have h1:1≤2 ^ k:=Nat.one_le_two_pow
 have h2:2 ^ k<2 ^ 63:=Nat.pow_lt_pow_right (by omega) hk
 have e:m=((2 ^ k-1:Nat):Int):=by rw [hm];push_cast [h1];rfl
 rw [e,bits_and_u64_nat _ _ (by omega) (by omega),Nat.and_two_pow_sub_one_eq_mod]
 push_cast
 rfl
theorem ins_walk (u:Int) (h0:0≤u) (h64:u<18446744073709551616):(⟨wrap64 (bits BinOp.and IntKind.u64 u 255),wrap64 (bits BinOp.and IntKind.u64 (u / 256) 15),wrap64 (bits BinOp.and IntKind.u64 (u / 4096) 15),wrap64 (bits BinOp.and IntKind.u64 (u / 65536) 15),wrap64 (wrap32 (u / 4294967296))⟩:Ins)=Qz u:=by
 have w64:∀x,wrap64 x=(x+9223372036854775808) % 18446744073709551616-9223372036854775808:=fun x=>by simp [wrap64]
 have w32:∀x,wrap32 x=(x+2147483648) % 4294967296-2147483648:=fun x=>by simp [wrap32]
 rw [and_mod u h0 h64 8 (by omega) 255 (by decide),and_mod (u / 256) (by omega) (by omega) 4 (by omega) 15 (by decide),and_mod (u / 4096) (by omega) (by omega) 4 (by omega) 15 (by decide),and_mod (u / 65536) (by omega) (by omega) 4 (by omega) 15 (by decide)]
 unfold Qz imOf
 simp only [w64,w32,Ins.mk.injEq]
 refine ⟨by omega,by omega,by omega,by omega,?_⟩
 split<;>omega
theorem idecode (u:Int) (h0:0≤u) (h64:u<18446744073709551616) (w:World):Calls Tryz.prog 223 #[.int .u64 u] w fun e w'=>e=.returned (.tuple #[.agg (insc (decI u)),.int .i64 (if decB u then 0 else 11)])∧Chg [] w w':=by
 have hI:=ins_walk u h0 h64
 have HZ:(putRow ((w.alloc (.cells (insc insZ) 65)).alloc (.cells (insc insZ) 65)) (w.heap.size+1) 0 (insc (Qz u))).heap[w.heap.size]? =some (.cells (insc insZ) 65 (0,0)):=by
  rw [Qc _ _ _ _ _ (by simp [ZX,Fit,QE]),if_neg (by omega)]
  simp
 have HY:(putRow ((w.alloc (.cells (insc insZ) 65)).alloc (.cells (insc insZ) 65)) (w.heap.size+1) 0 (insc (Qz u))).heap[w.heap.size+1]? =some (.cells (insc (Qz u)) 65 (0,0)):=by
  rw [Qc _ _ _ _ _ (by simp [ZX,Fit,QE]),if_pos rfl]
  simp
 have HC:=Vh ((((Chg.refl [] w).alloc (.cells (insc insZ) 65)).alloc (.cells (insc insZ) 65)).putRow (w.heap.size+1) 0 (insc (Qz u)) (.inr (by omega)))
 have HN:=Vh (show w.heap.size≤w.heap.size by omega)
 have HI:=Vh hI
 clear hI
 cases hg:YY (Qz u)
 ·have hd:decB u=false:=by unfold decB;rw [hg];rfl
  rw [show decI u=insZ by unfold decI;rw [hd];rfl,hd]
  go_enter Tryz.func223,Tryz.ntmps223
  try dsimp only [List.append]
  go_wp2_with fail
  simp only [HI.out]
  generalize putRow ((w.alloc (.cells (insc insZ) 65)).alloc (.cells (insc insZ) 65)) (w.heap.size+1) 0 (insc (Qz u))=w1 at HZ HY HC ⊢
  refine (iencode_bad (Qz u) w1 hg).mono ?_
  rintro e w2 ⟨rfl,c2⟩
  have hz:=c2.keep HZ (by simp)
  have hy:=c2.keep HY (by simp)
  have HC2:=Vh (HC.out.trans c2)
  clear HZ HY c2
  go_wp2_with fail
  refine bodyPost_ret (v:=.tuple #[.agg (insc insZ),.int .i64 11]) (J7 (by rfl) _ _ w.heap.size insZ (0,0) (by rfl) (by simp [*];try rfl) _ (by rfl)) (by rfl) ⟨rfl,HC2.out.putRow _ _ _ (.inr HN.out)⟩
 cases hc:JQ (Qz u)==u
 ·have hd:decB u=false:=by unfold decB;rw [hg,hc];rfl
  rw [show decI u=insZ by unfold decI;rw [hd];rfl,hd]
  have hne:(JQ (Qz u) !=u)=true:=by simp [bne,hc]
  clear hc
  go_enter Tryz.func223,Tryz.ntmps223
  try dsimp only [List.append]
  go_wp2_with fail
  simp only [HI.out]
  generalize putRow ((w.alloc (.cells (insc insZ) 65)).alloc (.cells (insc insZ) 65)) (w.heap.size+1) 0 (insc (Qz u))=w1 at HZ HY HC ⊢
  refine (iencode_ok (Qz u) w1 hg).mono ?_
  rintro e w2 ⟨rfl,c2⟩
  have hz:=c2.keep HZ (by simp)
  have hy:=c2.keep HY (by simp)
  have HC2:=Vh (HC.out.trans c2)
  clear HZ HY c2
  go_wp2_with fail
  refine bodyPost_ret (v:=.tuple #[.agg (insc insZ),.int .i64 11]) (J7 (by rfl) _ _ w.heap.size insZ (0,0) (by rfl) (by simp [*];try rfl) _ (by rfl)) (by rfl) ⟨rfl,HC2.out.putRow _ _ _ (.inr HN.out)⟩
 ·have hd:decB u=true:=by unfold decB;rw [hg,hc];rfl
  rw [show decI u=Qz u by unfold decI;rw [hd];rfl,hd]
  have hne:(JQ (Qz u) !=u)=false:=by simp [bne,hc]
  clear hc
  go_enter Tryz.func223,Tryz.ntmps223
  try dsimp only [List.append]
  go_wp2_with fail
  simp only [HI.out]
  generalize putRow ((w.alloc (.cells (insc insZ) 65)).alloc (.cells (insc insZ) 65)) (w.heap.size+1) 0 (insc (Qz u))=w1 at HZ HY HC ⊢
  refine (iencode_ok (Qz u) w1 hg).mono ?_
  rintro e w2 ⟨rfl,c2⟩
  have hz:=c2.keep HZ (by simp)
  have hy:=c2.keep HY (by simp)
  have HC2:=Vh (HC.out.trans c2)
  clear HZ HY c2
  go_wp2_with fail
  refine bodyPost_ret (v:=.tuple #[.agg (insc (Qz u)),.int .i64 0]) (J7 (by rfl) _ _ w.heap.size (Qz u) (0,0) (by rfl) (by rw [Qc _ _ _ _ _ (by rw [hz];simp [ZX,Fit,QE]),if_pos rfl,hz];exact Qg _ _ _ _ (by rw [QE,QE])) _ (by rfl)) (by rfl) ⟨rfl,HC2.out.putRow _ _ _ (.inr HN.out)⟩
end
section
set_option maxRecDepth 100000
structure Stc where
 u:Int
 d:Int
 m:Int
 s:Int
 i:Ins
 g:Bool
def Stc.enc (x:Stc):List Value:=.int .u64 x.u::.int .u32 x.d::.int .i32 x.m::.int .u32 x.s::(Ins.enc x.i++[.bool x.g])
theorem Stc.len (x:Stc):(Stc.enc x).length=10:=rfl
def stp (x:Int×Bool):Stc:=⟨x.1,stD x,0,0,stI x,stG x⟩
theorem splice_left {α:Type} (A ys vs:List α) (o:Nat):Zz (A++ys) (A.length+o) vs=A++Zz ys o vs:=by
 unfold Zz
 rw [List.take_append,List.take_of_length_le (by omega),Nat.add_sub_cancel_left,List.drop_append,List.drop_eq_nil_of_le (by omega),List.nil_append]
 rw [show A.length+o+vs.length-A.length=o+vs.length by omega]
 simp
section
variable {α:Type} {enc:α→List Value} {k:Nat}
theorem sq_put13 (hk:∀a,(enc a).length=k) {xs:List α} {n:Nat} {x:α} (y:α) (h:xs[n]? =some x) (r:List Value) (o:Nat) (vs:List Value) (ho:o+vs.length≤k) (hy:enc y=Zz (enc x) o vs):
 Zz (sq enc xs r).toList (n*k+o) vs=(sq enc (xs.set n y) r).toList:=by
 obtain ⟨hn,rfl⟩:=Vg h
 have e1:xs=xs.take n++xs[n]::xs.drop (n+1):=by rw [←List.drop_eq_getElem_cons hn,List.take_append_drop]
 have e2:xs.set n y=xs.take n++y::xs.drop (n+1):=List.set_eq_take_append_cons_drop.trans (if_pos hn)
 have e3:(cat enc (xs.take n)).length=n*k:=by rw [Q9 hk,List.length_take,Nat.min_eq_left (by omega)]
 rw [YF,YF,e2]
 conv=>lhs;rw [e1]
 rw [Jc,Jc,cat_cons,cat_cons,List.append_assoc,List.append_assoc,←e3,splice_left,List.append_assoc,Qae _ _ _ _ (by rw [hk];exact ho),←hy,List.append_assoc]
theorem sq_putRow13 (hk:∀a,(enc a).length=k) {xs:List α} {n:Nat} {x:α} (y:α) (h:xs[n]? =some x) (r:List Value) (o:Nat) (vs:Array Value) (ho:o+vs.size≤k) (hy:enc y=Zz (enc x) o vs.toList) (t:TypeId) (f:Nat×Nat):
 J6 (some (.cells (sq enc xs r) t f)) (n*k+o) vs=some (.cells (sq enc (xs.set n y) r) t f):=by
 rw [XD,sq_put13 hk y h r o vs.toList (by simpa using ho) hy,Array.toArray_toList]
theorem Qb6 (hk:∀a,(enc a).length=k) {xs:List α} {n:Nat} {x:α} (y:α) (h:xs[n]? =some x) (r:List Value) (o:Nat) (v:Value) (ho:o<k) (hy:enc y=(enc x).set o v) (t:TypeId) (f:Nat×Nat):
 Qh7 (some (.cells (sq enc xs r) t f)) (n*k+o) v=some (.cells (sq enc (xs.set n y) r) t f):=by
 obtain ⟨hn,hx⟩:=Vg h
 have hm:=JX (k:=k) hn
 have hl:n*k+o<(sq enc xs r).toList.length:=by rw [Array.length_toList,JD hk];omega
 have e:∀(l:List Value) (j:Nat),j<l.length→Zz l j [v]=l.set j v:=by
  intro l j hj
  rw [List.set_eq_take_append_cons_drop,if_pos hj]
  simp [Zz]
 have:=sq_put13 hk y h r o [v] (by simp;omega) (by rw [hy,e _ _ (by rw [hk];exact ho)])
 rw [e _ _ hl] at this
 rw [Qf]
 congr 2
 apply Array.toList_inj.1
 rw [Array.toList_setIfInBounds,this]
theorem sq_hasAt13 (hk:∀a,(enc a).length=k) {xs:List α} {n:Nat} (hn:n<xs.length) (r:List Value) (t:TypeId) (o m:Nat) (hm:o+m≤k):
 ZX (some (.cells (sq enc xs r) t (0,0))) (n*k+o) m=true:=by
 have h1:=JX (k:=k) hn
 rw [Qe,JD hk]
 exact decide_eq_true (show _≤_ by omega)
end
def Sts (w:World) (b:Nat) (xs:List Stc):Prop:=w.heap[b]? =some (.cells (sq Stc.enc xs []) 180 (0,0))
section
variable {w:World} {b n:Nat} {xs:List Stc} {x:Stc} (h:Sts w b xs) (hx:xs[n]? =some x)
include h
theorem Sts.keep {w':World} {l:List Nat} (hc:Chg l w w') (hb:b∉l):Sts w' b xs:=hc.keep h hb
theorem Sts.fz (o:Nat):w.frozen? ⟨b,o,none⟩=false:=by rw [Qs,show w.heap[b]? =_ from h,Qa]
include hx
theorem Sts.cell (o:Nat) (ho:o<10):w.cell? ⟨b,n*10+o,none⟩=(Stc.enc x)[o]?:=by
 rw [QG,show w.heap[b]? =_ from h,Qb,JU Stc.len hx [] o ho]
theorem Sts.done:w.cell? ⟨b,n*10+1,none⟩=some (.int .u32 x.d):=h.cell hx 1 (by omega)
theorem Sts.lock:w.cell? ⟨b,n*10+2,none⟩=some (.int .i32 x.m):=h.cell hx 2 (by omega)
theorem Sts.setDone (v:Int):Sts (w.setCell ⟨b,n*10+1,none⟩ (.int .u32 v)) b (xs.set n {x with d:=v}):=by
 unfold Sts
 rw [heap_setCell,if_pos rfl,show w.heap[b]? =_ from h]
 exact Qb6 Stc.len {x with d:=v} hx [] 1 _ (by omega) rfl _ _
theorem Sts.setLock (v:Int):Sts (w.setCell ⟨b,n*10+2,none⟩ (.int .i32 v)) b (xs.set n {x with m:=v}):=by
 unfold Sts
 rw [heap_setCell,if_pos rfl,show w.heap[b]? =_ from h]
 exact Qb6 Stc.len {x with m:=v} hx [] 2 _ (by omega) rfl _ _
end
theorem Sts.drew {w:World} {b:Nat} {xs:List Stc} (h:Sts w b xs):Sts w.drew b xs:=h
theorem odisable (w:World):(callFunc 249 #[]).run Tryz.prog w=.ok (.value (.tuple #[])) w:=run_call_mark0 Tryz.func249 (by kernel_rfl) (by kernel_rfl) (by kernel_rfl) .disable (by kernel_rfl) w
theorem oenable (w:World):(callFunc 251 #[]).run Tryz.prog w=.ok (.value (.tuple #[])) w:=run_call_mark0 Tryz.func251 (by kernel_rfl) (by kernel_rfl) (by kernel_rfl) .enable (by kernel_rfl) w
theorem oacquire (a:Addr) (w:World):(callFunc 252 #[.pointer (some a)]).run Tryz.prog w=.ok (.value (.tuple #[])) w:=run_call_marked Tryz.func252 (by kernel_rfl) (by kernel_rfl) (by kernel_rfl) .acquire (by kernel_rfl) a w
theorem oreleaseMerge (a:Addr) (w:World):(callFunc 254 #[.pointer (some a)]).run Tryz.prog w=.ok (.value (.tuple #[])) w:=run_call_marked Tryz.func254 (by kernel_rfl) (by kernel_rfl) (by kernel_rfl) .releaseMerge (by kernel_rfl) a w
theorem ostore (a:Addr) (x:Value) (u:FrameMode) (w:World) (hc:w.cell? a=some x) (hz:w.frozen? a=false):
 CallsD Tryz.prog 238 #[.pointer (some a),.bool true] u w fun e u' w'=>u'=u∧(e=.returned (.tuple #[])∧w'=w.drew.setCell a (.int .u32 1)):=by
 have hc':w.drew.cell? a=some x:=by go_simp
 have hz':w.drew.frozen? a=false:=by go_simp
 have hst:=run_call_store (P:=Tryz.prog) Tryz.func245 (by kernel_rfl) (by kernel_rfl) (by kernel_rfl) (by kernel_rfl) (k:=.u32) (y:=1) hc' hz'
 go_enter_d Tryz.func238,Tryz.ntmps238
 go_wp2
 go_region_calls
 all_goals (go_end0;exact ⟨rfl,rfl⟩)
theorem ounlock1 (a:Addr) (w:World) (hc:w.cell? a=some (.int .i32 1)) (hz:w.frozen? a=false):
 Calls Tryz.prog 244 #[.pointer (some a)] w fun e w'=>e=.returned (.tuple #[])∧w'=w.setCell a (.int .i32 0):=by
 have hd:=odisable
 have he:=oenable
 have hr:=oreleaseMerge
 have hadd:=run_call_add (P:=Tryz.prog) Tryz.func255 (by kernel_rfl) (by kernel_rfl) (by kernel_rfl) .i32 (by kernel_rfl) (y:= -1) (s:=0) hc hz (by simp [go_sem];rfl)
 have hcv:=run_convert_to_unsafe (P:=Tryz.prog) (src:=323) (dst:=327) Tryz.underlying323 Tryz.underlying327 (by kernel_rfl) hc
 go_enter Tryz.func244,Tryz.ntmps244
 go_wp2
 go_end0
 go_wp2
theorem ounlock (a:Addr) (u:FrameMode) (w:World) (hc:w.cell? a=some (.int .i32 1)) (hz:w.frozen? a=false):
 CallsD Tryz.prog 237 #[.pointer (some a)] u w fun e u' w'=>u'=u∧(e=.returned (.tuple #[])∧w'=w.setCell a (.int .i32 0)):=by
 have h1:=ounlock1 a w hc hz
 have H1:=Vh h1
 clear h1 hc hz
 go_enter_d Tryz.func237,Tryz.ntmps237
 go_wp2_with (go_at_call 244;refine H1.out.mono ?_;rintro e w' ⟨rfl,rfl⟩)
 go_end0
 exact ⟨rfl,rfl⟩
theorem olock1 (a:Addr) (w:World) (hc:w.cell? a=some (.int .i32 0)) (hz:w.frozen? a=false):
 Calls Tryz.prog 243 #[.pointer (some a)] w fun e w'=>e=.returned (.tuple #[])∧w'=w.setCell a (.int .i32 1):=by
 have hd:=odisable
 have he:=oenable
 have ha:=oacquire
 have hcas:=run_call_cas_hit (P:=Tryz.prog) Tryz.func250 (by kernel_rfl) (by kernel_rfl) (by kernel_rfl) .i32 (by kernel_rfl) (y:=1) hc hz
 have hc':(w.setCell a (.int .i32 1)).cell? a=some (.int .i32 1):=World.cell?_setCell_same w a _ hc
 have hcv:=run_convert_to_unsafe (P:=Tryz.prog) (src:=323) (dst:=327) Tryz.underlying323 Tryz.underlying327 (by kernel_rfl) hc'
 go_enter Tryz.func243,Tryz.ntmps243
 go_wp2
 first |go_end0|(simp only [Exit.inBlock,Exit.then];refine bodyPost_ret (results_none rfl _ _ _) rfl ?_)|refine bodyPost_ret (results_none rfl _ _ _) rfl ?_
 go_wp2
theorem olock (a:Addr) (w:World) (hc:w.cell? a=some (.int .i32 0)) (hz:w.frozen? a=false):
 Calls Tryz.prog 236 #[.pointer (some a)] w fun e w'=>e=.returned (.tuple #[])∧w'=w.setCell a (.int .i32 1):=by
 have h1:=olock1 a w hc hz
 have H1:=Vh h1
 clear h1 hc hz
 go_enter Tryz.func236,Tryz.ntmps236
 go_wp2_with (go_at_call 243;refine H1.out.mono ?_;rintro e w' ⟨rfl,rfl⟩)
 go_end0
 exact ⟨rfl,rfl⟩
theorem oload (a:Addr) (d:Int) (w:World) (hc:w.cell? a=some (.int .u32 d)):
 Calls Tryz.prog 221 #[.pointer (some a)] w fun e w'=>e=.returned (.bool (d !=0))∧w=w':=by
 have hl:=run_call_load (P:=Tryz.prog) Tryz.func235 (by kernel_rfl) (by kernel_rfl) (by kernel_rfl) .u32 (by kernel_rfl) hc
 go_enter Tryz.func221,Tryz.ntmps221
 go_wp2
 go_ret
 exact ⟨rfl,rfl⟩
attribute [local go_sem ↓] QG Qs Qk Qh heap_alloc Ql heap_setCell Qc Xd ZF Xe XK XJ XI Xg
attribute [local go_sem] Qb Qa Qe Qi Qd Qg Qf QB Qw QJ QA Qr QD QX QI Qq QC Qp Qj Qo Qn Xb QE ZI Xf ZJ XH Qct Qcs Qcr Qcq Qcp
attribute [local simp ↓] Qk Qh heap_alloc Ql heap_setCell Qc
attribute [local simp] Qb Qa Qe Qi Qd Qg Qf Qr Qj Qo Qn QE QD
theorem odecode {w:World} {b n:Nat} {xs:List Stc} {x:Stc} (h:Sts w b xs) (hx:xs[n]? =some x) (h0:0≤x.u) (h64:x.u<18446744073709551616):
 Calls Tryz.prog 181 #[.pointer (some ⟨b,n*10,none⟩)] w fun e w'=>e=.returned (.tuple #[])∧Chg [b] w w'∧Sts w' b (xs.set n {x with i:=decI x.u,g:=decB x.u}):=by
 have hn:=(Vg hx).1
 have hc0:(sq Stc.enc xs [])[n*10]? =some (.int .u64 x.u):=JU Stc.len hx [] 0 (by omega)
 have hr:ZX (some (.cells (sq Stc.enc xs []) 180 (0,0))) (n*10+4) 5=true:=sq_hasAt13 Stc.len hn _ _ _ _ (by omega)
 have hp:=sq_putRow13 Stc.len {x with i:=decI x.u} hx [] 4 (insc (decI x.u)) (by rw [QE];omega) rfl 180 (0,0)
 have hx2:(xs.set n {x with i:=decI x.u})[n]? =some {x with i:=decI x.u}:=by rw [List.getElem?_set_self hn]
 have hc9:(sq Stc.enc (xs.set n {x with i:=decI x.u}) [])[n*10+9]? =some (.bool x.g):=JU Stc.len hx2 [] 9 (by omega)
 have hs:=Qb6 Stc.len {x with i:=decI x.u,g:=decB x.u} hx2 [] 9 (.bool (decB x.u)) (by omega) rfl 180 (0,0)
 rw [List.set_set] at hs
 have HS:=Vh hs
 have HD:=Vh (fun w=>idecode x.u h0 h64 w)
 have hg:((if decB x.u=true then (0:Int) else 11)==0)=decB x.u:=by cases decB x.u<;>rfl
 generalize (if decB x.u=true then (0:Int) else 11)=er at HD hg
 generalize decI x.u=ii at *
 generalize decB x.u=gg at *
 generalize xs.set n {x with i:=ii}=xs2 at hp hc9 HS
 generalize hxg:x.g=xg at hc9
 generalize x.u=xu at *
 have hb:w.heap[b]? =some (.cells (sq Stc.enc xs []) 180 (0,0)):=h
 have ob:Old w b:=old h
 clear h hx hn hx2 hs hxg h0 h64
 go_enter Tryz.func181,Tryz.ntmps181
 go_wp2_with fail
 refine (HD.out w).mono ?_
 rintro e w1 ⟨rfl,c1⟩
 have hb1:=c1.keep hb (by simp)
 have HC1:=Vh c1
 have ob1:=ob.chg c1
 clear c1 hb hc0
 go_wp2_with fail
 go_end0
 refine ⟨rfl,(((HC1.out.mono (l':=[b]) (by simp)).alloc _).putRow b _ _ (.inl (by simp))).setCell b _ _ (.inl (by simp)),?_⟩
 unfold Sts
 rw [heap_setCell,if_pos rfl,Qc _ _ _ _ _ (by simp [hb1,hr,QE]),if_pos rfl]
 simp only [heap_alloc,hb1,Option.some_or,hp]
 exact HS.out
def readS (x:Stc):Stc:={x with d:=1,i:=decI x.u,g:=decB x.u}
set_option maxHeartbeats 2000000 in
theorem oslow {w:World} {b n:Nat} {xs:List Stc} {x:Stc} (h:Sts w b xs) (hx:xs[n]? =some x) (hd:x.d=0) (hm:x.m=0) (h0:0≤x.u) (h64:x.u<18446744073709551616):
 Calls Tryz.prog 222 #[.pointer (some ⟨b,n*10+1,none⟩),.func (.func 181) #[.pointer (some ⟨b,n*10,none⟩)] #[]] w fun e w'=>e=.returned (.tuple #[])∧Chg [b] w w'∧Sts w' b (xs.set n (readS x)):=by
 have hn:=(Vg hx).1
 have L1:=olock ⟨b,n*10+2,none⟩ w (by rw [h.lock hx,hm]) (h.fz 2 |> fun _=>h.fz (n*10+2))
 have s1:=h.setLock hx 1
 have hx1:(xs.set n {x with m:=1})[n]? =some {x with m:=1}:=List.getElem?_set_self hn
 have c1:Chg [b] w (w.setCell ⟨b,n*10+2,none⟩ (.int .i32 1)):=(Chg.refl [b] w).setCell b _ _ (.inl (by simp))
 have HL:=Vh L1
 have H1:=Vh s1
 have HX1:=Vh hx1
 have HC1:=Vh c1
 have L2:=Vh (oload ⟨b,n*10+1,none⟩ 0 (w.setCell ⟨b,n*10+2,none⟩ (.int .i32 1)) (by rw [s1.done hx1];show some (Value.int .u32 x.d)=_;rw [hd]))
 have HD:=Vh (odecode s1 hx1 h0 h64)
 have HN:=Vh hn
 have H:=Vh h
 have HX:=Vh hx
 have HM:=Vh hm
 have HDD:=Vh hd
 clear h hx hd hm h0 h64 hn L1 s1 hx1 c1
 generalize w.setCell ⟨b,n*10+2,none⟩ (.int .i32 1)=w1 at *
 go_enter_defers Tryz.func222,Tryz.ntmps222
 go_wp2_with (first |(go_at_call 236;refine HL.out.mono ?_;rintro e w' ⟨rfl,rfl⟩)|(go_at_call 221;refine L2.out.mono ?_;rintro e w' ⟨rfl,rfl⟩)|(go_at_call 181;refine HD.out.mono ?_;rintro e w2 ⟨rfl,c2,s2⟩;have HS2:=Vh s2;have HC2:=Vh c2;clear s2 c2))
 have hx2:((xs.set n {x with m:=1}).set n {x with m:=1,i:=decI x.u,g:=decB x.u})[n]? =some {x with m:=1,i:=decI x.u,g:=decB x.u}:=List.getElem?_set_self (by rw [List.length_set];exact HN.out)
 have s2:=HS2.out
 rw [List.set_set] at s2 hx2
 have s3:=s2.drew.setDone hx2 1
 have hx3:((xs.set n {x with m:=1,i:=decI x.u,g:=decB x.u}).set n {x with m:=1,i:=decI x.u,g:=decB x.u,d:=1})[n]? =some {x with m:=1,i:=decI x.u,g:=decB x.u,d:=1}:=List.getElem?_set_self (by rw [List.length_set];exact HN.out)
 have s4:=s3.setLock hx3 0
 have o1:=Vh (fun u=>ostore ⟨b,n*10+1,none⟩ _ u w2 (s2.done hx2) (s2.fz _))
 have o2:=Vh (fun u=>ounlock ⟨b,n*10+2,none⟩ u (w2.drew.setCell ⟨b,n*10+1,none⟩ (.int .u32 1)) (s3.lock hx3) (s3.fz _))
 have S4:=Vh s4
 clear s2 hx2 s3 hx3 s4
 refine leaves_cons (f:=238) (args:=#[.pointer (some ⟨b,n*10+1,none⟩),.bool true]) (by simp) (by simp [go_sem]) ?_
 refine (o1.out .returning).mono ?_
 rintro e u' w'' ⟨rfl,rfl,rfl⟩
 refine leaves_cons (f:=237) (args:=#[.pointer (some ⟨b,n*10+2,none⟩)]) (by simp [settle]) (by simp [go_sem]) ?_
 refine (o2.out _).mono ?_
 rintro e u' w'' ⟨rfl,rfl,rfl⟩
 have hc:=(((HC1.out.trans HC2.out).drew).setCell b (n*10+1) (.int .u32 1) (.inl (by simp))).setCell b (n*10+2) (.int .i32 0) (.inl (by simp))
 have hs:Sts ((w2.drew.setCell ⟨b,n*10+1,none⟩ (.int .u32 1)).setCell ⟨b,n*10+2,none⟩ (.int .i32 0)) b (xs.set n (readS x)):=by
  have:=S4.out
  rw [List.set_set,List.set_set] at this
  rw [show readS x={x with m:=0,i:=decI x.u,g:=decB x.u,d:=1} by unfold readS;rw [←HM.out]]
  exact this
 simp [Leaves,settle,results,Tryz.results222]
 exact ⟨hc,hs⟩
theorem odo {w:World} {b n:Nat} {xs:List Stc} {x y:Stc} (h:Sts w b xs) (hx:xs[n]? =some x) (hy:(x.d=0∧x.m=0∧y=readS x)∨(x.d=1∧y=x)) (h0:0≤x.u) (h64:x.u<18446744073709551616):
 Calls Tryz.prog 180 #[.pointer (some ⟨b,n*10+1,none⟩),.func (.func 181) #[.pointer (some ⟨b,n*10,none⟩)] #[]] w fun e w'=>e=.returned (.tuple #[])∧Chg [b] w w'∧Sts w' b (xs.set n y):=by
 rcases hy with ⟨hd,hm,rfl⟩|⟨hd,rfl⟩
 ·have L:=Vh (oload ⟨b,n*10+1,none⟩ 0 w (by rw [h.done hx,hd]))
  have S:=Vh (oslow h hx hd hm h0 h64)
  clear h hx hd hm h0 h64
  go_enter Tryz.func180,Tryz.ntmps180
  go_wp2_with (first |(go_at_call 221;refine L.out.mono ?_;rintro e w' ⟨rfl,rfl⟩)|(go_at_call 222;refine S.out.mono ?_;rintro e w2 ⟨rfl,c2,s2⟩;have HS2:=Vh s2;have HC2:=Vh c2;clear s2 c2))
  go_end0
  exact ⟨rfl,HC2.out,HS2.out⟩
 ·have L:=Vh (oload ⟨b,n*10+1,none⟩ 1 w (by rw [h.done hx,hd]))
  have e:xs.set n y=xs:=by
   obtain ⟨h1,h2⟩:=Vg hx
   rw [←h2];exact List.set_getElem_self h1
  rw [e]
  have HS:=Vh h
  clear h hx hd e
  go_enter Tryz.func180,Tryz.ntmps180
  go_wp2_with (go_at_call 221;refine L.out.mono ?_;rintro e w' ⟨rfl,rfl⟩)
  go_end0
  exact ⟨rfl,Chg.refl _ _,HS.out⟩
theorem oins {w:World} {b n:Nat} {pr:List (Int×Bool)} {u:Int} {r:Bool} (h:Sts w b (pr.map stp)) (hx:pr[n]? =some (u,r)) (h0:0≤u) (h64:u<18446744073709551616):
 Calls Tryz.prog 134 #[.pointer (some ⟨b,n*10,none⟩)] w fun e w'=>e=.returned (.tuple #[.agg (insc (decI u)),.bool (decB u)])∧Chg [b] w w'∧Sts w' b ((pr.set n (u,true)).map stp):=by
 have hn:=(Vg hx).1
 have hx1:(pr.map stp)[n]? =some (stp (u,r)):=by rw [List.getElem?_map,hx];rfl
 have e1:(pr.map stp).set n (stp (u,true))=(pr.set n (u,true)).map stp:=by rw [List.map_set]
 have c1:Chg [] w (w.alloc (.cells (insc insZ) 65)):=(Chg.refl [] w).alloc _
 have D:=odo (h.keep c1 (by simp)) hx1 (y:=stp (u,true)) (by
  cases r
  ·exact .inl ⟨rfl,rfl,rfl⟩
  ·exact .inr ⟨rfl,rfl⟩) h0 h64
 rw [e1] at D
 have HD:=Vh D
 have hx2:((pr.set n (u,true)).map stp)[n]? =some (stp (u,true)):=by rw [List.getElem?_map,List.getElem?_set_self hn];rfl
 have hr:Qbo (some (.cells (sq Stc.enc ((pr.set n (u,true)).map stp) []) 180 (0,0))) (n*10+4) 5=true:=Qff Stc.len (by rw [List.length_map,List.length_set];exact hn) _ _ _ _ _ (by omega)
 have hp:XF (some (.cells (sq Stc.enc ((pr.set n (u,true)).map stp) []) 180 (0,0))) (n*10+4) 5=insc (decI u):=Qcm Stc.len hx2 _ _ _ 4 5 (by omega)
 have hg:(sq Stc.enc ((pr.set n (u,true)).map stp) [])[n*10+9]? =some (.bool (decB u)):=JU Stc.len hx2 [] 9 (by omega)
 have HC1:=Vh c1
 have oz:(w.alloc (.cells (insc insZ) 65)).heap[w.heap.size]? =some (.cells (insc insZ) 65 (0,0)):=by simp
 have hb:Old w b:=old h
 have hpb:=Vh (show w.heap.size≠b from by have:=hb.lt;omega)
 clear h hx hx1 e1 c1 D hx2
 generalize (pr.set n (u,true)).map stp=ys at *
 generalize decI u=ii at *
 generalize decB u=gg at *
 go_enter Tryz.func134,Tryz.ntmps134
 go_wp2_with fail
 generalize hw1:w.alloc (.cells (insc insZ) 65)=w1 at HD HC1 oz ⊢
 generalize hz:w.heap.size=p at oz hpb ⊢
 refine HD.out.mono ?_
 rintro e w2 ⟨rfl,c2,s2⟩
 have hb2:w2.heap[b]? =some (.cells (sq Stc.enc ys []) 180 (0,0)):=s2
 have hz2:=c2.keep oz (by simpa using hpb.out)
 have HC2:=Vh ((HC1.out.mono (l':=[b]) (by simp)).trans c2)
 have HS2:=Vh s2
 have ob:=old hb2
 have op:=old hz2
 have n1:¬p=b:=hpb.out
 have n2:¬b=p:=fun e=>hpb.out e.symm
 clear c2 s2 oz hw1 HD hb
 go_wp2_with fail
 go_region
 all_goals
  go_wp2
  refine bodyPost_ret (v:=.tuple #[.agg (insc ii),.bool gg]) (J7 (by rfl) _ _ p ii (0,0) (by rfl) ?_ _ (by rfl)) (by rfl) ⟨rfl,?_,?_⟩
  ·rw [Qc _ _ _ _ _ (by simp [hz2,ZX,Fit,QE]),if_pos rfl]
   show J6 (w2.heap[p]?) 0 (insc ii)=_
   rw [hz2]
   exact Qg _ _ _ _ (by rw [QE,QE])
  ·exact HC2.out.drew.putRow p 0 _ (.inr (by omega))
  ·unfold Sts
   rw [Qc _ _ _ _ _ (by simp [hz2,ZX,Fit,QE]),if_neg n2]
   exact HS2.out
end
end Go.Proofs.YtlidfghgjjffaaaGreatDoor
