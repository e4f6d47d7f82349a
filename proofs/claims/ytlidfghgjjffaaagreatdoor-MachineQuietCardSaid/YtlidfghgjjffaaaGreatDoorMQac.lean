/- Texts of the walk, one behind the other: Seo Msgm Nvm Nvmb Lines Msg Msga Msgq Wpqm Arrm Agm. No condition. -/
import Derived.Test.YtlidfghgjjffaaaGreatDoorMQaa
import Derived.Test.YtlidfghgjjffaaaGreatDoorMQab
import Derived.BigQuiet
import Derived.Deep.QuietTactic
import Derived.Deep.RegionHeld3
import Derived.Deep.RegionWith
import Derived.DeepKeys
import Derived.Laws.LoneSync
import Derived.Lib.SliceRun
import Derived.Test.YtlidfghgjjffaaaGreatDoorChecked
namespace Go.Proofs.YtlidfghgjjffaaaGreatDoor
open Go.RowKit
set_option linter.unusedVariables false
section
section
variable {α:Type} {enc:α→List Value} {k bytes:Nat} {P:Program} {t ty e:TypeId} {z:Value}
def sqo (enc:α→List Value) (p:List Value) (xs:List α) (r:List Value):Array Value:=(p++(cat enc xs++r)).toArray
theorem sqo_size (hk:∀a,(enc a).length=k) (p:List Value) (xs:List α) (r:List Value):(sqo enc p xs r).size=p.length+xs.length*k+r.length:=by simp [sqo,Q9 hk];omega
theorem Qgc (p:List Value) (xs:List α) (r:List Value):(sqo enc p xs r).toList=p++(cat enc xs++r):=by simp [sqo]
def Vof (k:Nat) (e:TypeId) (enc:α→List Value) (w:World) (q be:Nat) (A:Option Addr) (cap:Nat) (xs:List α):Prop:=
 (be=q∧A=none∧cap=0∧xs=[])∨(be≠q∧xs.length≤cap∧∃(o:Nat) (p r:List Value),A=some ⟨be,o,none⟩∧p.length=o∧w.heap[be]? =some (.cells (sqo enc p xs r) e (0,0))∧cap*k≤xs.length*k+r.length)
section
variable {w w':World} {q be:Nat} {A:Option Addr} {cap:Nat} {xs:List α}
theorem Vof.le (h:Vof k e enc w q be A cap xs):xs.length≤cap:=by
 rcases h with ⟨_,_,rfl,rfl⟩|⟨_,h,_⟩
 ·simp
 ·exact h
theorem Vof.keep {l:List Nat} (h:Vof k e enc w q be A cap xs) (hc:Chg l w w') (hb:be∉l):Vof k e enc w' q be A cap xs:=
 h.imp id fun ⟨h1,h2,o,p,r,h3,h4,h5,h6⟩=>⟨h1,h2,o,p,r,h3,h4,hc.keep h5 hb,h6⟩
theorem Vof.old (h:Vof k e enc w q be A cap xs) (hq:Old w q):Old w be:=by
 rcases h with ⟨rfl,_⟩|⟨_,_,o,p,r,_,_,h5,_⟩
 ·exact hq
 ·exact Go.Proofs.YtlidfghgjjffaaaGreatDoor.old h5
theorem Vof.sl (hk:∀a,(enc a).length=k) (h:Vof k e enc w q be A cap xs):Sl w k A xs.length (cat enc xs):=by
 refine ⟨Q9 hk xs,?_⟩
 rcases h with ⟨_,_,_,rfl⟩|⟨_,_,o,p,r,rfl,rfl,h5,_⟩
 ·exact .inl rfl
 ·refine .inr ⟨be,_,_,e,(0,0),rfl,h5,?_⟩
  rw [Qgc,List.drop_append_of_le_length (Nat.le_refl _),List.drop_eq_nil_of_le (Nat.le_refl _),List.nil_append,List.take_append_of_le_length (by rw [Q9 hk];exact Nat.le_refl _),List.take_of_length_le (by rw [Q9 hk];exact Nat.le_refl _)]
def Qf4 (k:Nat) (A:Option Addr) (cap:Nat):Option Addr:=if cap=1 then A else A.map (·.add (1*k))
theorem Vof.tail {x:α} {xs:List α} (hk:∀a,(enc a).length=k) (h:Vof k e enc w q be A cap (x::xs)):Vof k e enc w q be (Qf4 k A cap) (cap-1) xs:=by
 rcases h with ⟨_,_,_,h⟩|⟨h1,h2,o,p,r,rfl,rfl,h5,h6⟩
 ·cases h
 ·simp only [List.length_cons] at h2 h6
  rw [Nat.add_mul] at h6
  have hm:(cap-1)*k+1*k=cap*k:=by rw [←Nat.add_mul];congr 1;omega
  refine .inr ⟨h1,by omega,?_⟩
  unfold Qf4
  split
  ·rename_i h0
   have e0:xs=[]:=List.eq_nil_of_length_eq_zero (by omega)
   subst e0
   refine ⟨_,p,enc x++r,rfl,rfl,?_,by rw [h0];simp⟩
   rw [h5]
   simp [sqo,cat]
  ·refine ⟨p.length+1*k,p++enc x,r,by rw [Option.map_some,Addr.add_mid],by simp [hk],?_,by omega⟩
   rw [h5]
   simp [sqo,cat_cons]
def slS (t:TypeId) (x:Value) (lo hi mx:Option Value):Sem Value:=Instr.slice t x lo hi mx
def slR (P:Program) (t:TypeId) (x:Value) (lo hi mx:Option Value) (w:World):Result Value:=(Instr.slice t x lo hi mx).run P w
theorem Zi (t:TypeId) (x:Value) (lo hi mx:Option Value):Instr.slice t x lo hi mx=slS t x lo hi mx:=rfl
theorem ZN (P:Program) (t:TypeId) (x:Value) (lo hi mx:Option Value) (w:World):(slS t x lo hi mx).run P w=slR P t x lo hi mx w:=rfl
theorem slR_tail (E:Elt P t e k bytes z enc) (A:Option Addr) (n cap:Nat) (hc:n+1≤cap) (w:World):slR P t (.slice A (n+1) cap) (some (.int .i64 1)) none none w=.ok (.slice (Qf4 k A cap) n (cap-1)) w:=by
 obtain ⟨i0,hi0,hz0,hz1,hz2⟩:=info_parts E.info
 subst hz1
 unfold slR Qf4
 have h1:(0:Int)≤1:=by omega
 have h2:(1:Int)≤((n+1:Nat):Int):=by omega
 simp [Instr.slice,Instr.sliceBounds,Instr.sliceBound,asIntOf,run_underlying E.slice,sizeOf,typeInfo,hi0]
 intro h;omega
theorem Vof.first {x:α} {xs:List α} (hk:∀a,(enc a).length=k) (h:Vof k e enc w q be A cap (x::xs)):
 be≠q∧∃(o:Nat) (C:Array Value),A=some ⟨be,o,none⟩∧w.heap[be]? =some (.cells C e (0,0))∧Qbo (some (.cells C e (0,0))) o k=true∧XF (some (.cells C e (0,0))) o k=(enc x).toArray:=by
 rcases h with ⟨_,_,_,h⟩|⟨h1,h2,o,p,r,rfl,rfl,h5,h6⟩
 ·cases h
 ·refine ⟨h1,_,_,rfl,h5,?_,?_⟩
  ·rw [Qi,sqo_size hk]
   refine decide_eq_true (show _≤_ from ?_)
   simp only [List.length_cons,Nat.add_mul];omega
  ·rw [Xi,Qgc,List.drop_append_of_le_length (Nat.le_refl _),List.drop_eq_nil_of_le (Nat.le_refl _),List.nil_append,cat_cons,List.append_assoc,List.take_append_of_le_length (by rw [hk];exact Nat.le_refl _),List.take_of_length_le (by rw [hk];exact Nat.le_refl _)]
end
theorem Vof.app (E:Elt P t e k bytes z enc) {w:World} {q be:Nat} {A:Option Addr} {cap:Nat} {xs:List α} (hv:Vof k e enc w q be A cap xs) (hq:Old w q)
 {B:Option Addr} {m c:Nat} {ys:List α} (hs:Sl w k B m (cat enc ys)) (hm:ys.length=m) (hB:(xs.length+m)*bytes≤140737488355328) (h63:xs.length+m≤maxLen):
 ∃(be' cap':Nat) (A':Option Addr) (w':World),appR P t ty #[.slice A xs.length cap,.slice B m c] w=.ok (.slice A' (xs.length+m) cap') w'∧Vof k e enc w' q be' A' cap' (xs++ys)∧(be'=be∨w.heap.size≤be')∧Chg [be] w w'∧w'.heap[q]? =w.heap[q]?:=by
 obtain ⟨i0,hi0,hz0,hz1,hz2⟩:=info_parts E.info
 subst hz1
 subst hz2
 have h63':xs.length+m≤9223372036854775807:=by simp only [maxLen] at h63;omega
 rcases Nat.eq_zero_or_pos m with h0|h0
 ·subst h0
  obtain rfl:ys=[]:=List.eq_nil_of_length_eq_zero hm
  have hfc:=YK (P:=P) w i0.size 0 B 0 c [] ⟨by simp,.inl rfl⟩
  refine ⟨be,cap,A,w,?_,by simpa using hv,.inl rfl,Chg.refl _ _,rfl⟩
  have hle:=hv.le
  unfold appR
  cases A with
  |none=>simp [Builtin.append_,run_underlying E.slice,sizeOf,typeInfo,hi0,Builtin.lenOf,hfc,hle]
  |some a=>simp [Builtin.append_,run_underlying E.slice,sizeOf,typeInfo,hi0,Builtin.lenOf,hfc,hle,storeCells]
 ·obtain ⟨b,o,rfl⟩:=hs.addr h0
  have hcells:∀j v,(cat enc ys)[j]? =some v→w.cell? ((⟨b,o,none⟩:Addr).add j)=some v:=hs.cells
  have hlen:(cat enc ys).length=m*i0.size:=hs.1
  have holdS:=hv.sl E.len
  rcases hv with ⟨rfl,rfl,rfl,rfl⟩|⟨hne,hle,o1,p,r,rfl,rfl,hb,hr⟩
  ·have:=run_append_nil (P:=P) w t ty e i0 z E.slice hi0 hz0 ⟨b,o,none⟩ m c (cat enc ys) hlen hcells h0 (by rw [List.length_nil,Nat.zero_add] at h63';omega) (by rw [List.length_nil,Nat.zero_add] at hB;omega)
   have hge:=grownCap_ge w m 0 e
   refine ⟨w.heap.size,grownCap w m 0 e,some ⟨w.heap.size,0,none⟩,_,by simpa [appR] using this,?_,.inr (Nat.le_refl _),(Chg.refl _ _).drew.alloc _,?_⟩
   ·refine .inr ⟨by have:=hq.lt;omega,by simp [hm];exact hge,0,[],(Builtin.zeroCells z.cells (grownCap w m 0 e-m)).toList,rfl,rfl,?_,?_⟩
    ·rw [heap_alloc]
     have h2:w.drew.heap[w.heap.size]? =none:=Array.getElem?_eq_none (Nat.le_refl _)
     have h3:w.heap.size=w.drew.heap.size:=rfl
     rw [h2,if_pos h3]
     simp [sqo]
    ·simp only [List.nil_append,hm,Array.length_toList,size_zeroCells,E.zero]
     rw [←Nat.add_mul];apply Nat.mul_le_mul_right;omega
   ·rw [heap_alloc,Qk,if_neg Cz13,Option.or_none]
  ·by_cases hroom:xs.length+m≤cap
   ·have hmul:(xs.length+m)*i0.size≤cap*i0.size:=Nat.mul_le_mul_right _ hroom
    rw [Nat.add_mul] at hmul
    have hsz:(sqo enc p xs r).size=p.length+xs.length*i0.size+r.length:=sqo_size E.len p xs r
    have hrow:ZX (w.heap[be]?) (p.length+xs.length*i0.size) (cat enc ys).length=true:=by
     rw [hb,Qe,hsz,hlen]
     exact decide_eq_true (show _≤_ by omega)
    have hr2:=run_append_room_cells (P:=P) w t ty e i0 E.slice hi0 be p.length xs.length cap ⟨b,o,none⟩ m c (cat enc ys) hlen hcells (Qcf E.one ys) hroom
     (by intro j hj;rw [QG,hb,Qb];simp;rw [hsz];omega)
     (by intro j hj;rw [Qs,hb,Qa])
    refine ⟨be,cap,_,_,hr2,.inr ⟨hne,by simp [hm,hroom],p.length,p,r.drop (m*i0.size),rfl,rfl,?_,?_⟩,.inl rfl,Chg.setCells be (.inl (by simp)) _ _ _ (Chg.refl _ _),?_⟩
    ·rw [JM _ _ _ _ _ hrow,if_pos rfl,hb,XD,Qgc]
     congr 2
     unfold sqo Zz
     congr 1
     have e1:(cat enc xs).length=xs.length*i0.size:=Q9 E.len xs
     have e2:(p++(cat enc xs++r)).take (p.length+xs.length*i0.size)=p++cat enc xs:=by
      rw [←List.append_assoc,List.take_append_of_le_length (by simp;omega),List.take_of_length_le (by simp;omega)]
     have e3:(p++(cat enc xs++r)).drop (p.length+xs.length*i0.size+m*i0.size)=r.drop (m*i0.size):=by
      rw [←List.append_assoc,List.drop_append,List.drop_eq_nil_of_le (by simp;omega),List.nil_append]
      congr 1
      simp [e1]
     rw [List.toList_toArray,hlen,e2,e3,Jc]
     simp only [List.append_assoc]
    ·simp only [List.length_append,hm,List.length_drop]
     rw [Nat.add_mul];omega
    ·rw [JM _ _ _ _ _ hrow,if_neg (Ne.symm hne)]
   ·have hgr:=run_append_grow (P:=P) w t ty e i0 z E.slice hi0 hz0 ⟨be,p.length,none⟩ xs.length cap (cat enc xs) (Q9 E.len xs) holdS.cells ⟨b,o,none⟩ m c (cat enc ys) hlen hcells (by omega) (by omega) (growslice_fits (by omega) hB)
    have hge:=grownCap_ge w (xs.length+m) cap e
    refine ⟨w.heap.size,grownCap w (xs.length+m) cap e,_,_,hgr,?_,.inr (Nat.le_refl _),(Chg.refl _ _).drew.alloc _,?_⟩
    ·refine .inr ⟨by have:=hq.lt;omega,by simp [hm];exact hge,0,[],(Builtin.zeroCells z.cells (grownCap w (xs.length+m) cap e-(xs.length+m))).toList,rfl,rfl,?_,?_⟩
     ·rw [heap_alloc]
      have h2:w.drew.heap[w.heap.size]? =none:=Array.getElem?_eq_none (Nat.le_refl _)
      have h3:w.heap.size=w.drew.heap.size:=rfl
      rw [h2,if_pos h3]
      simp [sqo,Jc]
     ·simp only [List.length_append,hm,Array.length_toList,size_zeroCells,E.zero]
      rw [←Nat.add_mul];apply Nat.mul_le_mul_right;omega
    ·rw [heap_alloc,Qk,if_neg Cz13,Option.or_none]
theorem clone_elts (E:Elt P t e k bytes z enc) (w:World) (e0:Addr) (A:Option Addr) (n c:Nat) (xs:List α) (h:Sl w k A n (cat enc xs)) (hn:xs.length=n) (hB:n*bytes≤140737488355328) (h63:n≤maxLen):
 ∃(A':Option Addr) (c':Nat) (w':World),appR P t ty #[.slice (some e0) 0 0,.slice A n c] w=.ok (.slice A' n c') w'∧Sl w' k A' n (cat enc xs)∧Chg [] w w':=by
 obtain ⟨i0,hi0,hz0,hz1,hz2⟩:=info_parts E.info
 subst hz1
 subst hz2
 rcases Nat.eq_zero_or_pos n with h0|h0
 ·subst h0
  obtain rfl:xs=[]:=List.eq_nil_of_length_eq_zero hn
  exact ⟨_,_,_,Qea E.slice hi0 w e0 A c,⟨by simp [cat],.inl rfl⟩,Chg.refl _ _⟩
 ·refine ⟨_,_,_,Qcl E.slice hi0 hz0 w e0 A n c _ h h0 h63 hB,⟨h.1,.inr ⟨w.heap.size,0,(cat enc xs++(Builtin.zeroCells z.cells (grownCap w n 0 e-n)).toList).toArray,e,(0,0),rfl,?_,?_⟩⟩,(Chg.refl _ _).drew.alloc _⟩
  ·rw [heap_alloc]
   have h2:w.drew.heap[w.heap.size]? =none:=Array.getElem?_eq_none (Nat.le_refl _)
   have h3:w.heap.size=w.drew.heap.size:=rfl
   rw [h2,if_pos h3]
   rfl
  rw [List.drop_zero,List.toList_toArray,List.take_append_of_le_length (by rw [h.1];exact Nat.le_refl _),List.take_of_length_le (by rw [h.1];exact Nat.le_refl _)]
end
end
section
structure Ms where
 kd:Int
 li:Int
 di:Bool
 ke:Bool
 l:List Int
 h:l.length=8
def Ms.enc (m:Ms):List Value:=.int .i64 m.kd::.int .i64 m.li::.bool m.di::.bool m.ke::m.l.map (Value.int .u64)
theorem Ms.len (m:Ms):(Ms.enc m).length=12:=by simp [Ms.enc,m.h]
theorem Ms.one (m:Ms):∀v∈Ms.enc m,v.oneCell'=true:=by
 intro v hv
 simp only [Ms.enc,List.mem_cons,List.mem_map] at hv
 rcases hv with rfl|rfl|rfl|rfl|⟨x,_,rfl⟩<;>rfl
def msZ:Ms:=⟨0,0,false,false,[0,0,0,0,0,0,0,0],rfl⟩
def msc (m:Ms):Array Value:=(Ms.enc m).toArray
def msV:Value:=.agg (msc msZ)
theorem msV_size:msV.cells.size=12:=rfl
theorem msV_one:∀v∈msV.cells,v.oneCell'=true:=by intro v hv;exact Ms.one msZ v (by simpa [msV,Value.cells,msc] using hv)
theorem QH (m:Ms):(msc m).size=12:=by simp [msc,Ms.len]
theorem ZO (m:Ms):Qab (msc m):=Qp _ (List.all_eq_true.2 (Ms.one m))
theorem Xq (m:Ms):(msc m)[0]? =some (.int .i64 m.kd):=by simp [msc,Ms.enc]
theorem Xp (m:Ms):(msc m)[1]? =some (.int .i64 m.li):=by simp [msc,Ms.enc]
theorem Xy (m:Ms):(msc m)[2]? =some (.bool m.di):=by simp [msc,Ms.enc]
theorem Xx (m:Ms):(msc m)[3]? =some (.bool m.ke):=by simp [msc,Ms.enc]
theorem Zx (m:Ms) (t:TypeId) (f:Nat×Nat):XF (some (.cells (msc m) t f)) 4 8=vs m.l:=by
 rw [Xi]
 have:m.l.length=8:=m.h
 simp [msc,Ms.enc,vs,List.take_of_length_le,this]
theorem Zy (C:Array Value) (m:Ms) (h:C.size=12):Array.foldl (fun cs y=>cs.setIfInBounds y.snd y.fst) C (msc m).zipIdx 0 12=msc m:=Qeh _ _ _ (QH m) h
def ms4 (kd li:Int) (di ke:Bool):Ms:=⟨kd,li,di,ke,[0,0,0,0,0,0,0,0],rfl⟩
theorem XB (kd li:Int) (di ke:Bool):(#[.int .i64 kd,.int .i64 li,.bool di,.bool ke,.int .u64 0,.int .u64 0,.int .u64 0,.int .u64 0,.int .u64 0,.int .u64 0,.int .u64 0,.int .u64 0]:Array Value)=msc (ms4 kd li di ke):=rfl
theorem Ms.same {a b:Ms} (h1:a.kd=b.kd) (h2:a.li=b.li) (h3:a.di=b.di) (h4:a.ke=b.ke) (h5:a.l=b.l):a=b:=by
 cases a;cases b;simp_all
instance : DecidableEq Ms:=fun a b=>if h:a.kd=b.kd∧a.li=b.li∧a.di=b.di∧a.ke=b.ke∧a.l=b.l then isTrue (Ms.same h.1 h.2.1 h.2.2.1 h.2.2.2.1 h.2.2.2.2) else isFalse (fun e=>h (by subst e;exact ⟨rfl,rfl,rfl,rfl,rfl⟩))
def Qeq (k:Int):Bool:=decide (1≤k)&&decide (k≤5)
def Qbt (k:Int):Bool:=decide (6≤k)&&decide (k≤7)
def Y5 (k:Int):Bool:=decide (8≤k)&&decide (k≤14)
def Qc9 (k:Int):Bool:=decide (1≤k)&&decide (k≤14)
def Qc8 (i:Int):Bool:=decide (0≤i)&&decide (i≤63)
def mayD (k:Int):Bool:=k==3||k==6||k==7
def mayK (k:Int):Bool:=k==7
def mayW (k:Int):Bool:=k==8||k==9||k==10
def mg (m:Ms):Bool:=Qc9 m.kd&&Qc8 m.li&&(!m.di||mayD m.kd)&&(!m.ke||mayK m.kd)&&(mayW m.kd||m.di||m.l==[0,0,0,0,0,0,0,0])
def tabRow (k:Int):List Value:=[.bool (mayD k),.bool (mayK k),.bool (mayW k)]
def tabL:List Value:=((List.range 15).map fun k:Nat=>tabRow k).flatten
def Tab (w:World):Prop:=∃t f,w.heap[1]? =some (.cells tabL.toArray t f)
theorem Tab.keep {w w':World} {l:List Nat} (h:Tab w) (hc:Chg l w w') (h0:1∉l):Tab w':=by
 obtain ⟨t,f,h⟩:=h
 exact ⟨t,f,hc.keep h h0⟩
theorem Tab.old {w:World} (h:Tab w):Old w 1:=by
 obtain ⟨t,f,h⟩:=h
 exact Go.Proofs.YtlidfghgjjffaaaGreatDoor.old h
theorem Tab.old0 {w:World} (h:Tab w):Old w 0:=Nat.lt_of_le_of_lt (Nat.zero_le _) h.old
theorem tab_row (k:Nat) (h:k<15) (t:TypeId) (f:Nat×Nat):Qbo (some (.cells tabL.toArray t f)) (k*3) 3=true∧XF (some (.cells tabL.toArray t f)) (k*3) 3=#[.bool (mayD k),.bool (mayK k),.bool (mayW k)]:=by
 have:k=0∨k=1∨k=2∨k=3∨k=4∨k=5∨k=6∨k=7∨k=8∨k=9∨k=10∨k=11∨k=12∨k=13∨k=14:=by omega
 rcases this with rfl|rfl|rfl|rfl|rfl|rfl|rfl|rfl|rfl|rfl|rfl|rfl|rfl|rfl|rfl<;>exact ⟨rfl,rfl⟩
def Qg7 (xs:List Ms):Ms:=xs.headD msZ
def Qde (xs:List Ms):Bool:=!xs.isEmpty
end
section
theorem Zf:Wide Tryz.prog 59 8:=⟨⟨_,Tryz.underlying59,by rfl⟩,by kernel_rfl⟩
theorem Zg (x:Value):Instr.loadAt 59 x=Qdf 59 8 x:=rfl
theorem Q7 (x y:Value):Instr.storeAt 59 x y=Qar 59 8 x y:=rfl
attribute [local go_sem ↓] Qv QF Qx QP QG Qs Zg Q7 Qk Qh heap_alloc Ql heap_setCell Qc
attribute [local go_sem] Qb Qa Qe Qi Qd Qg Qf Qt Zk Zf QB Qw QN QL QM Q6 QJ QA Qr QX QI Qq QC Qp Qj Qo Qn
attribute [local simp ↓] Qk Qh heap_alloc Ql heap_setCell Qc
attribute [local simp] Qb Qa Qe Qi Qd Qg Qf Qt Qr Qj Qo Qn
def Dev (w:World) (g b n v:Nat) (xs:List Int):Prop:=
 (∃r wr:Int,w.heap[g]? =some (.cells #[.slice (some ⟨b,0,none⟩) n n,.int .i64 v,.int .u64 r,.int .u64 wr] 153 (0,0)))∧
 w.heap[b]? =some (.cells (bk xs []) 59 (0,0))∧xs.length=n*8∧2≤n∧n≤64∧1≤v∧v<n∧g≠b
theorem Dev.keep {w w':World} {g b n v:Nat} {xs:List Int} {l:List Nat} (h:Dev w g b n v xs) (hc:Chg l w w') (hg:g∉l) (hb:b∉l):Dev w' g b n v xs:=by
 obtain ⟨⟨r,wr,h1⟩,h2,h3⟩:=h
 exact ⟨⟨r,wr,hc.keep h1 hg⟩,hc.keep h2 hb,h3⟩
theorem within_yes (n a b:Int) (w:World) (h0:a≤n) (h1:n≤b):Calls Tryz.prog 74 #[.int .i64 n,.int .i64 a,.int .i64 b] w fun e w'=>e=.returned (.bool true)∧w=w':=by
 go_enter Tryz.func74,Tryz.ntmps74
 go_wp2
 go_ret
 exact ⟨rfl,rfl⟩
theorem place_ok (g b n v:Nat) (i:Int) (xs:List Int) (w:World) (hd:Dev w g b n v xs) (h0:0≤i) (h1:i<n):
 Calls Tryz.prog 220 #[.pointer (some ⟨g,0,none⟩),.int .i64 i] w fun e w'=>e=.returned (.int .i64 0)∧w=w':=by
 obtain ⟨⟨r,wr,hg⟩,_,_,hn2,hn,_⟩:=hd
 go_enter Tryz.func220,Tryz.ntmps220
 go_wp2_with (go_at_call 74;refine (within_yes _ _ _ _ (by omega) (by omega)).mono ?_;rintro e w' ⟨rfl,rfl⟩)
 go_ret
 exact ⟨rfl,rfl⟩
theorem add_any (g o:Nat) (x:Int) (w:World) (c:Array Value) (T:TypeId) (hg:w.heap[g]? =some (.cells c T (0,0))) (hc:c[o]? =some (.int .u64 x)):
 Calls Tryz.prog 117 #[.pointer (some ⟨g,o,none⟩),.int .u64 1] w fun e w'=>e=.returned (.int .u64 (IntKind.u64.wrap (x+1)))∧w'=w.setCell ⟨g,o,none⟩ (.int .u64 (IntKind.u64.wrap (x+1))):=by
 have hadd:=run_call_add (P:=Tryz.prog) Tryz.func157 (by kernel_rfl) (by kernel_rfl) (by kernel_rfl) .u64 (by kernel_rfl) (a:=⟨g,o,none⟩) (x:=x) (y:=1) (s:=IntKind.u64.wrap (x+1)) (w:=w) (by rw [QG,hg,Qb,hc]) (by rw [Qs,hg,Qa]) (by simp [Op.intArith])
 clear hg hc
 go_enter Tryz.func117,Tryz.ntmps117
 go_wp2
 go_ret
 exact ⟨rfl,rfl⟩
theorem Qc3 {fn:Func} {p t:Tmp} (h:fn.results=#[.cell p 59,.tmp t]) (tmps:Array Value) (w:World) (b:Nat) (l:List Int) (fr:Nat×Nat)
 (hp:tmps.getD p undef=.pointer (some ⟨b,0,none⟩)) (hb:w.heap[b]? =some (.cells (vs l) 59 fr)) (hl:l.length=8) (x:Value) (hx:tmps.getD t undef=x):
 (results fn tmps).run Tryz.prog w=.ok (.tuple #[.agg (vs l),x]) w:=by
 subst hx
 have hp':tmps[p]?.getD undef=.pointer (some ⟨b,0,none⟩):=by simpa using hp
 have:=run_loadVar_row (P:=Tryz.prog) w b 59 59 (vs l) fr _ hb Tryz.underlying59 rfl (by rw [Qt,hl];kernel_rfl)
 simp [results,h,hp',asAddr,this]
def Qhr:List Int:=[0,0,0,0,0,0,0,0]
theorem Qm:Qhr.length=8:=rfl
attribute [local go_sem] Qm
attribute [local simp] Qm
theorem read_ok (g b n v:Nat) (i:Nat) (xs:List Int) (w:World) (hd:Dev w g b n v xs) (h1:i<n):
 Calls Tryz.prog 208 #[.pointer (some ⟨g,0,none⟩),.int .i64 i] w fun e w'=>e=.returned (.tuple #[.agg (vs (ln xs i)),.int .i64 0])∧Chg [g] w w'∧Dev w' g b n v xs:=by
 have hd':=Vh (hd.keep ((Chg.refl [] w).alloc (.cells (vs Qhr) 59)) (by simp) (by simp))
 obtain ⟨⟨r,wr,hg⟩,hb,hx,hn2,hn,hv,hvn,hgb⟩:=hd
 have hf:Fit (i*8) 8 xs.length:=by rw [hx];unfold Fit;omega
 have H:=Vh hx
 have hbg:b≠g:=fun e=>hgb e.symm
 have hgl:=old hg
 have hbl:=old hb
 have hl:=Qig xs i hf
 have hi:(i:Int)<(n:Int):=by omega
 have hi0:(0:Int)≤(i:Int):=by omega
 have h64:(n:Int)≤64:=by omega
 have rp:=rowPart_bk hf [] 59 (0,0)
 have ri:=rowIn_bk hf [] 59 (0,0)
 clear hx hf
 go_enter Tryz.func208,Tryz.ntmps208
 go_wp2_with (first
  |(go_at_call 220;refine (place_ok g b n v _ xs _ hd'.out (by omega) (by omega)).mono ?_;rintro e w' ⟨rfl,rfl⟩)
  |(go_at_call 117;refine (add_any g 2 r _ #[.slice (some ⟨b,0,none⟩) n n,.int .i64 v,.int .u64 r,.int .u64 wr] 153 (by rw [heap_alloc,hg];rfl) rfl).mono ?_;rintro e w' ⟨rfl,rfl⟩))
 refine bodyPost_ret (v:=.tuple #[.agg (vs (ln xs i)),.int .i64 0]) ?_ (by rfl) ?_
 ·exact Qc3 (by rfl) _ _ w.heap.size (ln xs i) (0,0) (by rfl) (by simp [*]) hl _ (by rfl)
 refine ⟨rfl,?_,?_⟩
 ·exact (((Chg.refl _ _).alloc _).setCell _ _ _ (.inl (by simp))).putRow _ _ _ (.inr (by simp))
 ·exact ⟨⟨IntKind.u64.wrap (r+1),wr,by simp [*]⟩,by simp [*],H.out,hn2,hn,hv,hvn,hgb⟩
theorem write_ok (g b n v:Nat) (i:Nat) (l xs:List Int) (w:World) (hd:Dev w g b n v xs) (h1:i<n) (hl:l.length=8):
 Calls Tryz.prog 175 #[.pointer (some ⟨g,0,none⟩),.int .i64 i,.agg (vs l)] w fun e w'=>e=.returned (.int .i64 0)∧Chg [g,b] w w'∧Dev w' g b n v (JV xs i l):=by
 have hd':=Vh (hd.keep ((Chg.refl [] w).alloc (.cells (vs l) 59)) (by simp) (by simp))
 obtain ⟨⟨r,wr,hg⟩,hb,hx,hn2,hn,hv,hvn,hgb⟩:=hd
 have hf:Fit (i*8) 8 xs.length:=by rw [hx];unfold Fit;omega
 have H:=Vh hx
 have HL:=Vh (Jm xs i l hf hl)
 have hbg:b≠g:=fun e=>hgb e.symm
 have hgl:=old hg
 have hbl:=old hb
 have hi:(i:Int)<(n:Int):=by omega
 have hi0:(0:Int)≤(i:Int):=by omega
 have h64:(n:Int)≤64:=by omega
 have rp:=Qh8 (xs:=xs) (l:=l) (i:=i) (by rw [hl];exact hf) [] 59 (0,0)
 have ri:=rowHas_bk (xs:=xs) (i:=i) hf [] 59
 clear hx hf
 go_enter Tryz.func175,Tryz.ntmps175
 go_wp2_with (first
  |(go_at_call 220;refine (place_ok g b n v _ xs _ hd'.out (by omega) (by omega)).mono ?_;rintro e w' ⟨rfl,rfl⟩)
  |(go_at_call 117;refine (add_any g 3 wr _ #[.slice (some ⟨b,0,none⟩) n n,.int .i64 v,.int .u64 r,.int .u64 wr] 153 (by rw [heap_alloc,hg];rfl) rfl).mono ?_;rintro e w' ⟨rfl,rfl⟩))
 go_region
 all_goals
  go_wp2
  go_ret
  refine ⟨rfl,?_,?_⟩
  ·exact ((((Chg.refl _ _).alloc _).setCell _ _ _ (.inl (by simp))).drew).putRow _ _ _ (.inl (by simp))
  ·exact ⟨⟨r,IntKind.u64.wrap (wr+1),by simp [*]⟩,by simp [*],HL.out.trans H.out,hn2,hn,hv,hvn,hgb⟩
theorem Qdq:(Tryz.prog.info? 59).map (fun i=>(i.zero,i.size,i.bytes))=some (some (.agg (vs Qhr)),8,64):=by kernel_rfl
theorem Zj (w:World) (a:Option Addr) (n c n' c':Nat):(binOp .eql 24 (.slice a n c) (.slice none n' c')).run Tryz.prog w=.ok (.bool a.isNone) w:=Lib.run_eql_slice_nil w _ _ a n c n' c' Tryz.underlying24
attribute [local go_sem] Zj
theorem clone_ok (A:Option Addr) (n c:Nat) (xs:List Value) (w:World) (h:Sl w 8 A n xs) (h0:0<n) (hn:n*64≤140737488355328):
 Calls Tryz.prog 91 #[.slice A n c] w fun e w'=>∃g cap r,e=.returned (.slice (some ⟨g,0,none⟩) n cap)∧w'.heap[g]? =some (.cells (xs++r).toArray 59 (0,0))∧w.heap.size≤g∧n≤cap∧Chg [] w w':=by
 obtain ⟨i0,hi0,hz0,hz1,hz2⟩:=info_parts Qdq
 obtain ⟨b,o,rfl⟩:=h.addr h0
 have hcl:=Qcl (P:=Tryz.prog) (t:=24) (ty:=24) Tryz.underlying24 hi0 hz0 (w.alloc (.cells #[] 59)) ⟨w.heap.size,0,none⟩ (some ⟨b,o,none⟩) n c xs (by rw [hz1];exact h.chg ((Chg.refl [] w).alloc _) (by simp)) h0 (by simp only [maxLen];omega) (by rw [hz2];exact hn)
 have hge:=grownCap_ge (w.alloc (.cells #[] 59)) n 0 59
 generalize grownCap (w.alloc (.cells #[] 59)) n 0 59=cap at hcl hge
 generalize (Builtin.zeroCells (Value.agg (vs Qhr)).cells (cap-n)).toList=r at hcl
 clear h h0 hn hz0 hz1 hz2 hi0
 go_enter Tryz.func91,Tryz.ntmps91
 go_wp2
 go_ret
 exact ⟨w.heap.size+1,cap,r,rfl,by simp,by omega,hge,(((Chg.refl _ _).alloc _).drew).alloc _⟩
theorem Dev.sl {w:World} {g b n v:Nat} {xs:List Int} (h:Dev w g b n v xs):Sl w 8 (some ⟨b,0,none⟩) n (xs.map (Value.int .u64)):=Sl.of_bk h.2.1 h.2.2.1
def Qbu (w0:World) (n:Nat) (xs:List Int) (e:Ending) (w':World):Prop:=
 ∃g cap r,e=.returned (.slice (some ⟨g,0,none⟩) n cap)∧w'.heap[g]? =some (.cells (bk xs r) 59 (0,0))∧w0.heap.size≤g∧n≤cap∧Chg [] w0 w'
theorem image_ok (g b n v:Nat) (xs:List Int) (w:World) (hd:Dev w g b n v xs):Calls Tryz.prog 62 #[.pointer (some ⟨g,0,none⟩)] w (Qbu w n xs):=by
 have hs:=Vh hd.sl
 obtain ⟨⟨r,wr,hg⟩,hb,hx,hn2,hn,hv,hvn,hgb⟩:=hd
 clear hb hx
 go_enter Tryz.func62,Tryz.ntmps62
 go_wp2_with (go_at_call 91;refine (clone_ok _ n _ (xs.map (Value.int .u64)) _ hs.out (by omega) (by omega)).mono ?_;rintro e w' ⟨g',cap,r',rfl,h1,h2,h3,h4⟩)
 go_ret
 exact ⟨g',cap,r',rfl,h1,h2,h3,h4⟩
theorem restore_ok (g b n v:Nat) (xs ys:List Int) (A:Option Addr) (c:Nat) (w:World) (hd:Dev w g b n v xs) (hs:Sl w 8 A n (ys.map (Value.int .u64))):
 Calls Tryz.prog 42 #[.pointer (some ⟨g,0,none⟩),.slice A n c] w fun e w'=>e=.returned (.int .i64 0)∧Chg [b] w w'∧Dev w' g b n v ys:=by
 obtain ⟨⟨r,wr,hg⟩,hb,hx,hn2,hn,hv,hvn,hgb⟩:=hd
 obtain ⟨i0,hi0,hz0,hz1,hz2⟩:=info_parts Qdq
 have hy:ys.length=n*8:=by simpa using hs.1
 have hcp:=Qg3 (P:=Tryz.prog) (t:=24) (ty:=3) Tryz.underlying24 hi0 w b A n c n _ (by rw [hz1];exact hs) (bk_one ys) (by rw [hb,Qe,Qgs,List.length_map,hx,hy];simp [Fit])
 have HC:Chg [b] w (putRow w b 0 (ys.map (Value.int .u64)).toArray):=(Chg.refl _ _).putRow _ _ _ (.inl (by simp))
 have HD:Dev (putRow w b 0 (ys.map (Value.int .u64)).toArray) g b n v ys:=by
  refine ⟨⟨r,wr,HC.keep hg (by simpa using hgb)⟩,?_,hy,hn2,hn,hv,hvn,hgb⟩
  rw [Qc _ _ _ _ _ (by rw [hb,Qe,Qgs,List.size_toArray,List.length_map,hx,hy];simp [Fit]),if_pos rfl,hb,Qg _ _ _ _ (by rw [Qgs,List.size_toArray,List.length_map,hx,hy];rfl)]
  simp [bk]
 generalize putRow w b 0 (ys.map (Value.int .u64)).toArray=w1 at hcp HC HD
 clear hz0 hz1 hz2 hi0 hx hy hs hb
 go_enter Tryz.func42,Tryz.ntmps42
 go_wp2
 go_ret
 exact ⟨rfl,HC,HD⟩
theorem fail_ok (g b n v:Nat) (xs:List Int) (w:World) (hd:Dev w g b n v xs):
 Calls Tryz.prog 43 #[.pointer (some ⟨g,0,none⟩)] w fun e w'=>e=.returned (.tuple #[])∧Chg [b] w w'∧Dev w' g b n v (Jn xs v):=by
 obtain ⟨⟨r,wr,hg⟩,hb,hx,hn2,hn,hv,hvn,hgb⟩:=hd
 have hzv:∀w,(zeroValue 59).run Tryz.prog w=.ok (.agg (vs Qhr)) w:=fun w=>by
  obtain ⟨i0,hi0,hz0,hz1,hz2⟩:=info_parts Qdq
  simp [zeroValue,typeInfo,hi0,hz0]
 have hfit:ZX (w.heap[b]?) 0 (v*8)=true:=by rw [hb,Qe,Qgs,hx];simp [Fit];omega
 have hcl:=run_clear_row (P:=Tryz.prog) (t:=24) (ty:=0) Tryz.underlying24 hzv (by intro v hv;simp [Value.cells,vs,Qhr] at hv;rw [hv];rfl) w.drew b v n (by omega) hfit
 rw [show (Value.agg (vs Qhr)).cells=vs [0,0,0,0,0,0,0,0] from rfl,zeros_made] at hcl
 have HC:Chg [b] w (putRow w.drew b 0 (vs (List.replicate (v*8) 0))):=((Chg.refl _ _).drew).putRow _ _ _ (.inl (by simp))
 have HD:Dev (putRow w.drew b 0 (vs (List.replicate (v*8) 0))) g b n v (Jn xs v):=by
  refine ⟨⟨r,wr,HC.keep hg (by simpa using hgb)⟩,?_,by rw [Qda _ _ (by omega),hx],hn2,hn,hv,hvn,hgb⟩
  rw [Qc _ _ _ _ _ (by rw [Qt,List.length_replicate];exact hfit),if_pos rfl,Qk,hb,rowPut_forget _ _ (by omega)]
 generalize putRow w.drew b 0 (vs (List.replicate (v*8) 0))=w1 at hcl HC HD
 have hvn':(v:Int)≤(n:Int):=by omega
 have hv0:(0:Int)≤(v:Int):=by omega
 clear hx hb hzv hfit
 go_enter Tryz.func43,Tryz.ntmps43
 go_wp2
 go_region
 all_goals
  go_wp2
  go_end0
  exact ⟨rfl,HC,HD⟩
end
section
attribute [local go_sem ↓] Qv QF Qx QP QG Qs Zg Q7 Qk Qh heap_alloc Ql heap_setCell Qc
attribute [local go_sem] Qb Qa Qe Qi Qd Qg Qf Qt Zk Zf QB Qw QN QL QM Q6 QJ QA Qr QX QI Qq QC Qp Qj Qo Qn Qm Zj
attribute [local simp ↓] Qk Qh heap_alloc Ql heap_setCell Qc
attribute [local simp] Qb Qa Qe Qi Qd Qg Qf Qt Qr Qj Qo Qn Qm
theorem run_make_lines (w:World) (n:Nat) (hn:n≤64):mkR Tryz.prog 24 (.int .i64 n) (.int .i64 n) w=.ok (.slice (some ⟨w.heap.size,0,none⟩) n n) (w.alloc (.cells (bk (List.replicate (n*8) 0) []) 59)):=by
 obtain ⟨i0,hi0,hz0,hz1,hz2⟩:=info_parts Qdq
 have:=run_make (P:=Tryz.prog) w 24 59 i0 _ Tryz.underlying24 hi0 hz0 .i64 .i64 n n (by omega) (by omega) (by rw [hz2];omega) (by omega)
 simp only [Int.toNat_natCast,hz1] at this
 rw [←made_made]
 exact this
def MadeDev (w0:World) (n v:Nat) (e:Ending) (w':World):Prop:=
 e=.returned (.tuple #[.pointer (some ⟨w0.heap.size+1,0,none⟩),.int .i64 0])∧Chg [] w0 w'∧Dev w' (w0.heap.size+1) w0.heap.size n v (List.replicate (n*8) 0)∧w'.heap.size=w0.heap.size+2
theorem new_ok (n v:Nat) (w:World) (h1:2≤n) (h2:n≤64) (h3:1≤v) (h4:v<n):Calls Tryz.prog 41 #[.int .i64 n,.int .i64 v] w (MadeDev w n v):=by
 have hmk:=run_make_lines w n h2
 have g1:(2:Int)≤(n:Int):=by omega
 have g2:(n:Int)≤64:=by omega
 go_enter Tryz.func41,Tryz.ntmps41
 go_wp2_with (go_at_call 74;refine (within_yes _ _ _ _ (by omega) (by omega)).mono ?_;rintro e w' ⟨rfl,rfl⟩)
 go_ret2
 refine ⟨rfl,((Chg.refl _ _).alloc _).alloc _,⟨⟨0,0,?_⟩,?_,by simp,h1,h2,h3,h4,by omega⟩,by simp⟩
 ·simp
 ·simp
end
section
attribute [local go_sem ↓] Qv QF Qx QP QG Qs Zg Q7 Qk Qh heap_alloc Ql heap_setCell Qc
attribute [local go_sem] Qb Qa Qe Qi Qd Qg Qf Qt Zk Zf QB Qw QN QL QM Q6 QJ QA Qr QX QI Qq QC Qp Qj Qo Qn Qm Zj
attribute [local simp ↓] Qk Qh heap_alloc Ql heap_setCell Qc
attribute [local simp] Qb Qa Qe Qi Qd Qg Qf Qt Qr Qj Qo Qn Qm
theorem Zv (a b:List Int) (ha:a.length=8) (hb:b.length=8) (w:World):(Op.equalIn 10000 59 (.agg (vs a)) (.agg (vs b))).run Tryz.prog w=.ok (a==b) w:=by
 obtain ⟨i0,hi0⟩:∃i,Tryz.prog.info? 46=some i:=Option.isSome_iff_exists.1 (by kernel_rfl)
 exact eq_ints_array w (k:=.u64) Tryz.underlying59 hi0 Tryz.underlying46 (by kernel_rfl) a b ha hb
attribute [local go_sem] Zv lit8
theorem lines_same (b o b' o' n c c':Nat) (xs:List Int) (w:World) (h1:Sl w 8 (some ⟨b,o,none⟩) n (xs.map (Value.int .u64))) (h2:Sl w 8 (some ⟨b',o',none⟩) n (xs.map (Value.int .u64))) (hn:n≤100000):
 Calls Tryz.prog 14 #[.slice (some ⟨b,o,none⟩) n c,.slice (some ⟨b',o',none⟩) n c'] w fun e w'=>e=.returned (.bool true)∧Chg [] w w':=by
 have H1:=Vh h1
 have H2:=Vh h2
 clear h1 h2
 go_enter Tryz.func14,Tryz.ntmps14
 go_wp2
 go_loopw [5] (fun i wr=>∃k:Nat,k≤n∧i=.int .i64 k∧Chg [] w wr) (fun i _=>n-(intOf i).toNat)
 case atStart=>exact ⟨0,by omega,rfl,Chg.refl _ _⟩
 case round=>
  obtain ⟨k,hk,rfl,hc⟩:=hrel
  by_cases hlt:k<n
  ·obtain ⟨cs,t,f,hb,hi,hp,hl⟩:=(H1.out.chg hc (by simp)).line hlt
   obtain ⟨cs',t',f',hb',hi',hp',hl'⟩:=(H2.out.chg hc (by simp)).line hlt
   have g1:(k:Int)<(n:Int):=by omega
   have g0:(0:Int)≤(k:Int):=by omega
   have g2:(n:Int)≤100000:=by omega
   go_wp2
   go_region
   all_goals
    go_wp2
    go_roundw
    case rel=>exact ⟨k+1,by omega,by go_num,hc.drew⟩
    case measure=>simp [intOf];omega
  ·have:k=n:=by omega
   subst this
   go_wp2
   go_ret
   exact ⟨rfl,hc⟩
end
section
set_option maxHeartbeats 1000000
theorem ZM:Wide Tryz.prog 184 12:=⟨⟨_,Tryz.underlying184,by rfl⟩,by kernel_rfl⟩
theorem ZP (x:Value):Instr.loadAt 184 x=Qdf 184 12 x:=rfl
theorem Zu (x y:Value):Instr.storeAt 184 x y=Qar 184 12 x y:=rfl
theorem Xj:Wide Tryz.prog 292 3:=⟨⟨_,Tryz.underlying292,by rfl⟩,by kernel_rfl⟩
theorem Xk (x:Value):Instr.loadAt 292 x=Qdf 292 3 x:=rfl
theorem ZQ (x y:Value):Instr.storeAt 292 x y=Qar 292 3 x y:=rfl
attribute [local go_sem ↓] Qv QF Qx QP Zi QG Qs Zg Q7 ZP Zu Xk ZQ Qk Qh heap_alloc Ql heap_setCell Qc Xq Xp Xy Xx
attribute [local go_sem] Qb Qa Qe Qi Qd Qg Qf Qt Zk Zf ZM Xj QB Qw QN QL QM Q6 ZN QJ QA Qr QD QX QI Qq QC Qp Qj Qo Qn Qm Zv lit8 QH ZO Zx Zy
attribute [local simp ↓] Qk Qh heap_alloc Ql heap_setCell Qc
attribute [local simp] Qb Qa Qe Qi Qd Qg Qf Qt Qr Qj Qo Qn Qm QH
theorem Qaw (n a b:Int) (w:World):Calls Tryz.prog 202 #[.int .i64 n,.int .i64 a,.int .i64 b] w fun e w'=>e=.returned (.bool (decide (a≤n)&&decide (n≤b)))∧w=w':=by
 by_cases h:a≤n
 ·have t1:decide (a≤n)=true:=by simpa using h
  rw [t1]
  clear h
  go_enter Tryz.func202,Tryz.ntmps202
  go_wp2
  go_ret
  exact ⟨by simp,rfl⟩
 ·have t1:decide (a≤n)=false:=by simpa using h
  rw [t1]
  clear h
  go_enter Tryz.func202,Tryz.ntmps202
  go_wp2
  go_ret
  exact ⟨by simp,rfl⟩
theorem asks_any (k:Int) (w:World):Calls Tryz.prog 152 #[.int .i64 k] w fun e w'=>e=.returned (.bool (Qeq k))∧w=w':=by
 go_enter Tryz.func152,Tryz.ntmps152
 go_wp2_with (go_at_call 202;refine (Qaw _ _ _ _).mono ?_;rintro e w' ⟨rfl,rfl⟩)
 go_ret
 exact ⟨rfl,rfl⟩
theorem answers_any (k:Int) (w:World):Calls Tryz.prog 158 #[.int .i64 k] w fun e w'=>e=.returned (.bool (Qbt k))∧w=w':=by
 go_enter Tryz.func158,Tryz.ntmps158
 go_wp2_with (go_at_call 202;refine (Qaw _ _ _ _).mono ?_;rintro e w' ⟨rfl,rfl⟩)
 go_ret
 exact ⟨rfl,rfl⟩
theorem tells_any (k:Int) (w:World):Calls Tryz.prog 162 #[.int .i64 k] w fun e w'=>e=.returned (.bool (Y5 k))∧w=w':=by
 go_enter Tryz.func162,Tryz.ntmps162
 go_wp2_with (go_at_call 202;refine (Qaw _ _ _ _).mono ?_;rintro e w' ⟨rfl,rfl⟩)
 go_ret
 exact ⟨rfl,rfl⟩
theorem mgood_kind (m:Ms) (w:World) (h:Qc9 m.kd=false):Calls Tryz.prog 151 #[.agg (msc m)] w fun e w'=>e=.returned (.bool (mg m))∧Chg [] w w':=by
 rw [show mg m=false by simp [mg,h]]
 go_enter Tryz.func151,Tryz.ntmps151
 try dsimp only [List.append]
 go_wp2_with (go_at_call 202;refine (Qaw _ _ _ _).mono ?_;rintro e w' ⟨rfl,rfl⟩;rw [show (decide (1≤m.kd)&&decide (m.kd≤14))=false from h])
 go_ret
 exact ⟨rfl,(Chg.refl _ _).alloc _⟩
theorem mgood_line (m:Ms) (w:World) (h1:Qc9 m.kd=true) (h:Qc8 m.li=false):Calls Tryz.prog 151 #[.agg (msc m)] w fun e w'=>e=.returned (.bool (mg m))∧Chg [] w w':=by
 rw [show mg m=false by simp [mg,h]]
 go_enter Tryz.func151,Tryz.ntmps151
 try dsimp only [List.append]
 go_wp2_with (go_at_call 202;refine (Qaw _ _ _ _).mono ?_;rintro e w' ⟨rfl,rfl⟩;(try rw [show (decide (1≤m.kd)&&decide (m.kd≤14))=true from h1]);(try rw [show (decide (0≤m.li)&&decide (m.li≤63))=false from h]))
 go_ret
 exact ⟨rfl,(Chg.refl _ _).alloc _⟩
end
section
set_option maxHeartbeats 1000000
attribute [local go_sem ↓] Qv QF Qx QP Zi QG Qs Zg Q7 ZP Zu Xk ZQ Qk Qh heap_alloc Ql heap_setCell Qc Xq Xp Xy Xx
attribute [local go_sem] Qb Qa Qe Qi Qd Qg Qf Qt Zk Zf ZM Xj QB Qw QN QL QM Q6 ZN QJ QA Qr QD QX QI Qq QC Qp Qj Qo Qn Qm Zv lit8 QH ZO Zx Zy
attribute [local simp ↓] Qk Qh heap_alloc Ql heap_setCell Qc
attribute [local simp] Qb Qa Qe Qi Qd Qg Qf Qt Qr Qj Qo Qn Qm QH
theorem mgood_in (m:Ms) (k:Nat) (w:World) (hk:m.kd=k) (h1:1≤k) (h2:k≤14) (hl:Qc8 m.li=true) (ht:Tab w):Calls Tryz.prog 151 #[.agg (msc m)] w fun e w'=>e=.returned (.bool (mg m))∧Chg [] w w':=by
 have oh:=ht.old
 obtain ⟨t,f,ht⟩:=ht
 obtain ⟨ri,rp⟩:=tab_row k (by omega) t f
 obtain ⟨kd,li,di,ke,l,h8⟩:=m
 simp only at hk hl
 subst hk
 have hkd:Qc9 (k:Int)=true:=by simp [Qc9];omega
 have hmg:mg ⟨k,li,di,ke,l,h8⟩=((!di||mayD k)&&(!ke||mayK k)&&(mayW k||di||l==[0,0,0,0,0,0,0,0])):=by simp [mg,hkd,hl]
 have he:=fun W=>Zv l [0,0,0,0,0,0,0,0] h8 rfl W
 have g0:(0:Int)≤(k:Int):=by omega
 have g1:(k:Int)<15:=by omega
 have g2:k<15:=by omega
 rw [hmg]
 have HK:=Vh hkd
 have HL:=Vh hl
 clear hmg h1 h2 hkd hl
 generalize mayD (k:Int)=d at rp ⊢
 generalize mayK (k:Int)=e at rp ⊢
 generalize mayW (k:Int)=s at rp ⊢
 have hc:(di=true∧d=false)∨((di=false∨(di=true∧d=true))∧((ke=true∧e=false)∨((ke=false∨(ke=true∧e=true))∧(s=true∨s=false)))):=by
  cases di<;>cases d<;>cases ke<;>cases e<;>cases s<;>simp
 rcases hc with ⟨rfl,rfl⟩|⟨rfl|⟨rfl,rfl⟩,⟨rfl,rfl⟩|⟨rfl|⟨rfl,rfl⟩,rfl|rfl⟩⟩
 all_goals
  go_enter Tryz.func151,Tryz.ntmps151
  try dsimp only [List.append]
  go_wp2_with (go_at_call 202;refine (Qaw _ _ _ _).mono ?_;rintro e w' ⟨rfl,rfl⟩;(try rw [show (decide ((1:Int)≤(k:Int))&&decide ((k:Int)≤14))=true from HK.out]);(try rw [show (decide (0≤li)&&decide (li≤63))=true from HL.out]))
  go_ret
  exact ⟨by simp,((((Chg.refl _ _).alloc _).alloc _)).putRow _ _ _ (.inr (by simp))⟩
theorem Qif (m:Ms) (w:World) (ht:Tab w):Calls Tryz.prog 151 #[.agg (msc m)] w fun e w'=>e=.returned (.bool (mg m))∧Chg [] w w':=by
 cases h1:Qc9 m.kd
 ·exact mgood_kind m w h1
 cases h2:Qc8 m.li
 ·exact mgood_line m w h1 h2
 have h3:1≤m.kd∧m.kd≤14:=by simpa [Qc9] using h1
 exact mgood_in m m.kd.toNat w (by omega) (by omega) (by omega) h2 ht
end
section
set_option maxHeartbeats 1000000
set_option maxRecDepth 100000
attribute [local go_sem ↓] Qv QF Qx QP Zi QG Qs Zg Q7 ZP Zu Xk ZQ Qk Qh heap_alloc Ql heap_setCell Qc Xq Xp Xy Xx
attribute [local go_sem] Qb Qa Qe Qi Qd Qg Qf Qt Zk Zf ZM Xj QB Qw QN QL QM Q6 ZN QJ QA Qr QD QX QI Qq QC Qp Qj Qo Qn Qm Zv lit8 QH ZO Zx Zy
attribute [local simp ↓] Qk Qh heap_alloc Ql heap_setCell Qc
attribute [local simp] Qb Qa Qe Qi Qd Qg Qf Qt Qr Qj Qo Qn Qm QH
theorem msg_info:(Tryz.prog.info? 184).map (fun i=>(i.zero,i.size,i.bytes))=some (some msV,12,88):=by kernel_rfl
theorem eltMsg:Elt Tryz.prog 141 184 12 88 msV Ms.enc where
 slice:=Tryz.underlying141
 info:=msg_info
 zero:=msV_size
 zone:=msV_one
 pos:=by omega
 len:=Ms.len
 one:=Ms.one
theorem msg_slice (w:World) (m:Ms):Sl ((w.alloc (.cells (msc m) 184)).drew) 12 (some ⟨w.heap.size,0,none⟩) 1 (cat Ms.enc [m]):=
 ⟨by rw [Q9 Ms.len];rfl,.inr ⟨w.heap.size,0,msc m,184,(0,0),rfl,by simp,by rw [Qdb];simp [msc,Ms.len,List.take_of_length_le]⟩⟩
def Qu (W w:World) (q be:Nat) (xs:List Ms):Prop:=
 Chg [] W w∧Tab W∧W.heap.size≤q∧W.heap.size≤be∧xs.length≤1000∧∃A cap,w.heap[q]? =some (.cells #[.slice A xs.length cap] 158 (0,0))∧Vof 12 184 Ms.enc w q be A cap xs
theorem Qu.keep {W w w':World} {q be:Nat} {xs:List Ms} {l:List Nat} (h:Qu W w q be xs) (hc:Chg l w w') (hl:∀x∈l,W.heap.size≤x) (hq:q∉l) (hb:be∉l):Qu W w' q be xs:=by
 obtain ⟨h1,h2,h3,h4,h5,A,cap,h6,h7⟩:=h
 exact ⟨h1.trans' hc (fun x hx=>.inr (hl x hx)),h2,h3,h4,h5,A,cap,hc.keep h6 hq,h7.keep hc hb⟩
theorem YJ {fn:Func} {p t:Tmp} (h:fn.results=#[.cell p 184,.tmp t]) (tmps:Array Value) (w:World) (b:Nat) (m:Ms) (fr:Nat×Nat)
 (hp:tmps.getD p undef=.pointer (some ⟨b,0,none⟩)) (hb:w.heap[b]? =some (.cells (msc m) 184 fr)) (x:Value) (hx:tmps.getD t undef=x):
 (results fn tmps).run Tryz.prog w=.ok (.tuple #[.agg (msc m),x]) w:=by
 subst hx
 have hp':tmps[p]?.getD undef=.pointer (some ⟨b,0,none⟩):=by simpa using hp
 have:=run_loadVar_row (P:=Tryz.prog) w b 184 184 (msc m) fr _ hb Tryz.underlying184 rfl (by rw [QH];kernel_rfl)
 simp [results,h,hp',asAddr,this]
theorem YL:(#[.int .i64 0,.int .i64 0,.bool false,.bool false,.int .u64 0,.int .u64 0,.int .u64 0,.int .u64 0,.int .u64 0,.int .u64 0,.int .u64 0,.int .u64 0]:Array Value)=msc msZ:=rfl
attribute [local go_sem ↓] YL
attribute [local simp] YL
theorem Qfo:Qg7 []=msZ:=rfl
theorem Qcu (x:Ms) (xs:List Ms):Qg7 (x::xs)=x:=rfl
end
section
structure Ent where
 pos:Nat
 l:List Int
 h:l.length=8
def Ent.enc (e:Ent):List Value:=.int .i64 e.pos::e.l.map (Value.int .u64)
theorem Ent.len (e:Ent):(Ent.enc e).length=9:=by simp [Ent.enc,e.h]
theorem Ent.one (e:Ent):∀v∈Ent.enc e,v.oneCell'=true:=by
 intro v hv
 simp only [Ent.enc,List.mem_cons,List.mem_map] at hv
 rcases hv with rfl|⟨x,_,rfl⟩<;>rfl
def entZ:Value:=.agg (.int .i64 0::List.replicate 8 (.int .u64 0)).toArray
theorem entZ_size:entZ.cells.size=9:=rfl
theorem entZ_one:∀v∈entZ.cells,v.oneCell'=true:=by intro v hv;simp [entZ,Value.cells] at hv;rcases hv with rfl|rfl<;>rfl
def entc (e:Ent):Array Value:=(Ent.enc e).toArray
theorem YZ (e:Ent):(entc e).size=9:=by simp [entc,Ent.len]
theorem Qej (e:Ent):Qab (entc e):=Qp _ (List.all_eq_true.2 (Ent.one e))
theorem Qei (e:Ent):(entc e)[0]? =some (.int .i64 e.pos):=by simp [entc,Ent.enc]
theorem Qcy (e:Ent) (t:TypeId) (f:Nat×Nat):XF (some (.cells (entc e) t f)) 1 8=vs e.l:=by
 rw [Xi]
 have:e.l.length=8:=e.h
 simp [entc,Ent.enc,vs,List.take_of_length_le,this]
theorem Qgp (e:Ent) (t:TypeId) (f:Nat×Nat):Qbo (some (.cells (entc e) t f)) 1 8=true:=by
 rw [Qi,YZ];exact decide_eq_true (show 1+8≤9 by omega)
theorem Qeg (e:Ent):Array.foldl (fun cs y=>cs.setIfInBounds (1+y.snd) y.fst) #[.int .i64 e.pos,.int .u64 0,.int .u64 0,.int .u64 0,.int .u64 0,.int .u64 0,.int .u64 0,.int .u64 0,.int .u64 0] (vs e.l).zipIdx 0 8=entc e:=by
 rw [Qef _ _ 1 8 (by rw [Qt,e.h]) (by simp)]
 have:e.l.length=8:=e.h
 simp [Zz,vs,entc,Ent.enc,this]
theorem Qcx (C:Array Value) (e:Ent) (h:C.size=9):Array.foldl (fun cs y=>cs.setIfInBounds y.snd y.fst) C (entc e).zipIdx 0 9=entc e:=Qeh _ _ _ (YZ e) h
theorem JL {α:Type} (xs l:List α) (o j:Nat) (h:o+l.length≤xs.length):(Zz xs o l)[j]? =if j<o then xs[j]? else if j<o+l.length then l[j-o]? else xs[j]?:=by
 unfold Zz
 have e1:(xs.take o).length=o:=by simp;omega
 split
 ·rename_i h1
  rw [List.append_assoc,List.getElem?_append_left (by omega),List.getElem?_take_of_lt h1]
 ·split
  ·rename_i h1 h2
   rw [List.append_assoc,List.getElem?_append_right (by omega),e1,List.getElem?_append_left (by omega)]
  ·rename_i h1 h2
   rw [List.getElem?_append_right (by simp;omega),List.getElem?_drop]
   congr 1
   simp;omega
theorem lnPut_comm (xs a b:List Int) (i j:Nat) (hij:i≠j) (ha:a.length=8) (hb:b.length=8) (hi:Fit (i*8) 8 xs.length) (hj:Fit (j*8) 8 xs.length):JV (JV xs i a) j b=JV (JV xs j b) i a:=by
 have h1:=hi.out
 have h2:=hj.out
 have l1:=Jm xs i a hi ha
 have l2:=Jm xs j b hj hb
 apply List.ext_getElem?
 intro k
 unfold JV at *
 rw [JL _ _ _ _ (by rw [l1];omega),JL _ _ _ _ (by omega),JL _ _ _ _ (by rw [l2];omega),JL _ _ _ _ (by omega)]
 rw [ha,hb]
 rcases Nat.lt_or_gt_of_ne hij with h|h<;>(repeat' split)<;>first |rfl|omega
def over (xs:List Int) (es:List Ent):List Int:=es.foldl (fun xs e=>JV xs e.pos e.l) xs
theorem over_nil (xs:List Int):over xs []=xs:=rfl
theorem Qc7 (xs:List Int) (a b:List Ent):over xs (a++b)=over (over xs a) b:=by simp [over]
theorem Qcn (xs:List Int) (e:Ent) (b:List Ent):over xs (e::b)=over (JV xs e.pos e.l) b:=rfl
theorem Qic (xs:List Int) (a:List Ent) (e:Ent):over xs (a++[e])=JV (over xs a) e.pos e.l:=by rw [Qc7];rfl
def Lie (n:Nat) (es:List Ent):Prop:=∀e∈es,e.pos<n
theorem Lie.nil (n:Nat):Lie n []:=fun _ h=>by cases h
theorem Lie.snoc {n:Nat} {es:List Ent} (h:Lie n es) {e:Ent} (he:e.pos<n):Lie n (es++[e]):=fun x hx=>by
 rcases List.mem_append.1 hx with h1|h1
 ·exact h x h1
 ·rw [Vs h1];exact he
theorem Lie.sub {n:Nat} {es es':List Ent} (h:Lie n es) (hs:∀e∈es',e∈es):Lie n es':=fun x hx=>h x (hs x hx)
theorem Lie.get {n:Nat} {es:List Ent} (h:Lie n es) {k:Nat} {e:Ent} (he:es[k]? =some e):e.pos<n:=h e (List.mem_of_getElem? he)
theorem JO {n i:Nat} {xs:List Int} (hx:xs.length=n*8) (hi:i<n):Fit (i*8) 8 xs.length:=by rw [hx];unfold Fit;omega
theorem Qc6 {n:Nat}:∀(es:List Ent) (xs:List Int),xs.length=n*8→Lie n es→(over xs es).length=n*8
 |[],xs,hx,_=>hx
 |e::es,xs,hx,h=>by
  rw [Qcn]
  exact Qc6 es _ (by rw [Jm _ _ _ (JO hx (h e (by simp))) e.h,hx]) (h.sub (by intro x hx;simp [hx]))
theorem Qdp {n i:Nat}:∀(es:List Ent) (xs:List Int),xs.length=n*8→Lie n es→(∀e∈es,e.pos≠i)→ln (over xs es) i=ln xs i
 |[],xs,_,_,_=>rfl
 |e::es,xs,hx,h,hn=>by
  have hf:=JO hx (h e (by simp))
  rw [Qcn,Qdp es _ (by rw [Jm _ _ _ hf e.h,hx]) (h.sub (by intro x hx;simp [hx])) (fun x hx=>hn x (by simp [hx])),Qdo _ _ _ _ hf e.h (hn e (by simp))]
theorem ln_over_last {n:Nat} (es post:List Ent) (e:Ent) (xs:List Int) (hx:xs.length=n*8) (h:Lie n (es++e::post)) (hp:∀x∈post,x.pos≠e.pos):ln (over xs (es++e::post)) e.pos=e.l:=by
 have h1:Lie n es:=h.sub (by intro x hx;simp [hx])
 have hl:=Qc6 es xs hx h1
 have hf:=JO hl (h e (by simp))
 rw [Qc7,Qcn,Qdp post _ (by rw [Jm _ _ _ hf e.h,hl]) (h.sub (by intro x hx;simp [hx])) hp,Qe2 _ _ _ hf e.h]
theorem over_put {n:Nat}:∀(es:List Ent) (xs l:List Int) (i:Nat),xs.length=n*8→Lie n es→i<n→l.length=8→(∀x∈es,x.pos≠i)→over (JV xs i l) es=JV (over xs es) i l
 |[],xs,l,i,_,_,_,_,_=>rfl
 |e::es,xs,l,i,hx,h,hi,hl,hn=>by
  have hf:=JO hx (h e (by simp))
  have hfi:=JO hx hi
  rw [Qcn,Qcn,lnPut_comm xs l e.l i e.pos (fun h2=>hn e (by simp) h2.symm) hl e.h hfi hf]
  exact over_put es _ l i (by rw [Jm _ _ _ hf e.h,hx]) (h.sub (by intro x hx;simp [hx])) hi hl (fun x hx=>hn x (by simp [hx]))
theorem cut_at {α:Type} {es:List α} {k:Nat} {e:α} (he:es[k]? =some e):es=es.take k++e::es.drop (k+1):=by
 obtain ⟨hk,rfl⟩:=Vg he
 rw [←List.drop_eq_getElem_cons hk,List.take_append_drop]
theorem erase_at {α:Type} (es:List α) (k:Nat):es.eraseIdx k=es.take k++es.drop (k+1):=List.eraseIdx_eq_take_drop_succ es k
theorem over_drain {n:Nat} {es:List Ent} {k:Nat} {e:Ent} (xs:List Int) (hx:xs.length=n*8) (h:Lie n es) (he:es[k]? =some e) (hk:∀x∈es.take k,x.pos≠e.pos):over (JV xs e.pos e.l) (es.eraseIdx k)=over xs es:=by
 have hc:=cut_at he
 have h1:Lie n (es.take k):=h.sub (fun x hx=>List.mem_of_mem_take hx)
 have e1:over xs es=over (JV (over xs (es.take k)) e.pos e.l) (es.drop (k+1)):=by
  conv=>lhs;rw [hc]
  rw [Qc7,Qcn]
 rw [e1,erase_at,Qc7,over_put _ _ _ _ hx h1 (h.get he) e.h hk]
theorem ln_over_at {n:Nat} {es:List Ent} {k:Nat} {e:Ent} (xs:List Int) (hx:xs.length=n*8) (h:Lie n es) (he:es[k]? =some e) (hk:∀x∈es.drop (k+1),x.pos≠e.pos):ln (over xs es) e.pos=e.l:=by
 have hc:=cut_at he
 rw [hc]
 exact ln_over_last _ _ _ _ hx (by rw [←hc];exact h) hk
theorem drop_all {α:Type} {p:α→Prop} {es:List α} {k:Nat} {e:α} (he:es[k]? =some e) (h:p e) (hd:∀x∈es.drop (k+1),p x):∀x∈es.drop k,p x:=by
 obtain ⟨hk,rfl⟩:=Vg he
 rw [List.drop_eq_getElem_cons hk]
 intro x hx
 rcases List.mem_cons.1 hx with rfl|hx
 ·exact h
 ·exact hd x hx
theorem take_all {α:Type} {p:α→Prop} {es:List α} {k:Nat} {e:α} (he:es[k]? =some e) (h:p e) (hd:∀x∈es.take k,p x):∀x∈es.take (k+1),p x:=by
 obtain ⟨hk,rfl⟩:=Vg he
 rw [List.take_succ_eq_append_getElem hk]
 intro x hx
 rcases List.mem_append.1 hx with hx|hx
 ·exact hd x hx
 ·rw [Vs hx];exact h
section
variable {es:List Ent} {k:Nat} {e:Ent} (h:es[k]? =some e) (r:List Value) (t:TypeId) (f:Nat×Nat)
include h
theorem Qip:XF (some (.cells (sq Ent.enc es r) t f)) (k*9) 9=entc e:=by
 have:=Qcm Ent.len h r t f 0 9 (by omega)
 rw [Nat.add_zero] at this
 rw [this]
 simp [entc,Ent.len,List.take_of_length_le]
theorem Qdz:Qbo (some (.cells (sq Ent.enc es r) t f)) (k*9) 9=true:=Qff Ent.len (Vg h).1 r t f 0 9 (by omega)
theorem ent_cell:(sq Ent.enc es r)[k*9]? =some (.int .i64 e.pos):=by
 have:=JU Ent.len h r 0 (by omega)
 rw [Nat.add_zero] at this
 rw [this];rfl
theorem ent_line:XF (some (.cells (sq Ent.enc es r) t f)) (k*9+1) 8=vs e.l:=by
 rw [Qcm Ent.len h r t f 1 8 (by omega)]
 have:e.l.length=8:=e.h
 simp [Ent.enc,vs,List.take_of_length_le,this]
theorem ent_lineIn:Qbo (some (.cells (sq Ent.enc es r) t f)) (k*9+1) 8=true:=Qff Ent.len (Vg h).1 r t f 1 8 (by omega)
end
def is (xs:List Int):Array Value:=(xs.map (Value.int .i64)).toArray
end
section
structure Slt where
 st:Int
 li:Int
 l:List Int
 us:Int
 h:l.length=8
def Slt.enc (s:Slt):List Value:=.int .i64 s.st::.int .i64 s.li::(s.l.map (Value.int .u64)++[.int .i64 s.us])
theorem Slt.len (s:Slt):(Slt.enc s).length=11:=by simp [Slt.enc,s.h]
theorem Slt.one (s:Slt):∀v∈Slt.enc s,v.oneCell'=true:=by
 intro v hv
 simp only [Slt.enc,List.mem_cons,List.mem_append,List.mem_map,Vn,or_false] at hv
 rcases hv with rfl|rfl|⟨x,_,rfl⟩|rfl<;>rfl
def sltZ:Slt:=⟨0,0,[0,0,0,0,0,0,0,0],0,rfl⟩
def sltV:Value:=.agg (.int .i64 0::.int .i64 0::(List.replicate 8 (.int .u64 0)++[.int .i64 0])).toArray
theorem sltV_size:sltV.cells.size=11:=rfl
theorem sltV_one:∀v∈sltV.cells,v.oneCell'=true:=by intro v hv;simp [sltV,Value.cells] at hv;rcases hv with rfl|rfl|rfl<;>rfl
def slc (s:Slt):Array Value:=(Slt.enc s).toArray
theorem QV (s:Slt):(slc s).size=11:=by simp [slc,Slt.len]
theorem Xc (s:Slt):Qab (slc s):=Qp _ (List.all_eq_true.2 (Slt.one s))
theorem XG (s:Slt):(slc s)[0]? =some (.int .i64 s.st):=by simp [slc,Slt.enc]
theorem XP (s:Slt):(slc s)[1]? =some (.int .i64 s.li):=by simp [slc,Slt.enc]
theorem enc_us (s:Slt):(Slt.enc s)[10]? =some (.int .i64 s.us):=by
 have:s.l.length=8:=s.h
 unfold Slt.enc
 rw [List.getElem?_cons_succ,List.getElem?_cons_succ,List.getElem?_append_right (by simp [this])]
 simp [this]
theorem XO (s:Slt):(slc s)[10]? =some (.int .i64 s.us):=by rw [slc,List.getElem?_toArray,enc_us]
theorem enc_line (s:Slt):((Slt.enc s).drop 2).take 8=s.l.map (Value.int .u64):=by
 have:s.l.length=8:=s.h
 unfold Slt.enc
 rw [List.drop_succ_cons,List.drop_succ_cons,List.drop_zero,List.take_append_of_le_length (by simp [this]),List.take_of_length_le (by simp [this])]
theorem ZG (s:Slt) (t:TypeId) (f:Nat×Nat):XF (some (.cells (slc s) t f)) 2 8=vs s.l:=by
 rw [Xi]
 unfold slc
 rw [List.toList_toArray,enc_line];rfl
theorem slcZ:slc sltZ=#[.int .i64 0,.int .i64 0,.int .u64 0,.int .u64 0,.int .u64 0,.int .u64 0,.int .u64 0,.int .u64 0,.int .u64 0,.int .u64 0,.int .i64 0]:=rfl
theorem ZL (st li z:Int) (l:List Int) (h:l.length=8):Array.foldl (fun cs y=>cs.setIfInBounds (2+y.snd) y.fst) #[.int .i64 st,.int .i64 li,.int .u64 0,.int .u64 0,.int .u64 0,.int .u64 0,.int .u64 0,.int .u64 0,.int .u64 0,.int .u64 0,.int .i64 z] (vs l).zipIdx 0 8=slc ⟨st,li,l,z,h⟩:=by
 rw [Qef _ _ 2 8 (by rw [Qt,h]) (by simp)]
 simp [Zz,vs,slc,Slt.enc,h]
theorem ZV (C:Array Value) (s:Slt) (h:C.size=11):Array.foldl (fun cs y=>cs.setIfInBounds y.snd y.fst) C (slc s).zipIdx 0 11=slc s:=Qeh _ _ _ (QV s) h
theorem Zn (s:Slt) (u:Int):(slc s).setIfInBounds 10 (.int .i64 u)=slc ⟨s.st,s.li,s.l,u,s.h⟩:=by
 have h8:s.l.length=8:=s.h
 unfold slc Slt.enc
 rw [List.setIfInBounds_toArray,List.set_cons_succ,List.set_cons_succ,List.set_append_right _ _ (by simp [h8])]
 simp [h8]
def hit (p:Slt→Bool) (ys:List Slt):Int:=if ys.findIdx p<ys.length then (ys.findIdx p:Nat) else -1
theorem Qim {α:Type} {p:α→Bool} {ys:List α} {k:Nat} {y:α} (h:ys[k]? =some y) (hp:p y=true) (hb:∀x∈ys.take k,p x=false):ys.findIdx p=k:=by
 obtain ⟨hk,rfl⟩:=Vg h
 refine (List.findIdx_eq hk).2 ⟨hp,fun j hj=>?_⟩
 have:=hb ys[j] (List.mem_take_iff_getElem.2 ⟨j,by omega,rfl⟩)
 simpa using this
theorem hit_at {p:Slt→Bool} {ys:List Slt} {k:Nat} {y:Slt} (h:ys[k]? =some y) (hp:p y=true) (hb:∀x∈ys.take k,p x=false):hit p ys=(k:Int):=by
 have hk:=(Vg h).1
 unfold hit
 rw [Qim h hp hb,if_pos hk]
theorem Qed {p:Slt→Bool} {ys:List Slt} (h:∀x∈ys,p x=false):hit p ys= -1:=by
 unfold hit
 rw [if_neg]
 rw [List.findIdx_eq_length.2 (by intro x hx;simpa using h x hx)]
 omega
theorem hit_or (p:Slt→Bool) (ys:List Slt):(∃(k:Nat) (y:Slt),hit p ys=(k:Int)∧ys.findIdx p=k∧ys[k]? =some y∧p y=true∧k<ys.length∧∀x∈ys.take k,p x=false)∨(hit p ys= -1∧ys.findIdx p=ys.length∧∀x∈ys,p x=false):=by
 by_cases h:ys.findIdx p<ys.length
 ·refine .inl ⟨ys.findIdx p,ys[ys.findIdx p],by unfold hit;rw [if_pos h],rfl,List.getElem?_eq_getElem h,List.findIdx_getElem,h,?_⟩
  intro x hx
  obtain ⟨j,hj,rfl⟩:=List.mem_take_iff_getElem.1 hx
  have:=List.not_of_lt_findIdx (p:=p) (xs:=ys) (i:=j) (by omega)
  simpa using this
 ·have e:ys.findIdx p=ys.length:=Nat.le_antisymm List.findIdx_le_length (by omega)
  refine .inr ⟨by unfold hit;rw [if_neg h],e,?_⟩
  have:=List.findIdx_eq_length.1 e
  intro x hx
  simpa using this x hx
def X9 (li:Int) (x:Slt):Bool:=x.st !=0&&x.li==li
def Qch (x:Slt):Bool:=x.st==0
theorem Qby {li:Int} {x:Slt} (h:X9 li x=true):x.st≠0∧x.li=li:=by simpa [X9] using h
def YO (st:Int):Bool:=decide (1≤st)&&decide (st≤3)
def Qiq (a:Int×Int) (s:Slt):Int×Int:=if YO s.st&&(decide (a.1<0)||decide (s.us<a.2)) then (s.li,s.us) else a
def eldS (ys:List Slt):Int×Int:=ys.foldl Qiq (-1,0)
def eld (ys:List Slt):Int:=(eldS ys).1
theorem eldS_take {ys:List Slt} {k:Nat} {y:Slt} (h:ys[k]? =some y):eldS (ys.take (k+1))=Qiq (eldS (ys.take k)) y:=by
 obtain ⟨hk,rfl⟩:=Vg h
 unfold eldS
 rw [List.take_succ_eq_append_getElem hk,List.foldl_append];rfl
def XN (S:Nat) (li:Int):Nat:=li.toNat % S
def seg (W:Nat) (xs:List Slt) (t:Nat):List Slt:=(xs.drop (t*W)).take W
theorem seg_length {S W:Nat} {xs:List Slt} (hx:xs.length=S*W) {t:Nat} (ht:t<S):(seg W xs t).length=W:=by
 have:t*W+W≤S*W:=JX ht
 simp [seg];omega
theorem Qh6 {W:Nat} (xs:List Slt) (t k:Nat) (hk:k<W):(seg W xs t)[k]? =xs[t*W+k]?:=by
 unfold seg
 rw [List.getElem?_take_of_lt hk,List.getElem?_drop]
structure Good (S W:Nat) (xs:List Slt):Prop where
 sets:S=1∨S=2∨S=4∨S=8
 way1:1≤W
 way8:W≤8
 len:xs.length=S*W
 home:∀i x,xs[i]? =some x→x.st≠0→0≤x.li∧i / W=XN S x.li
theorem Good.spos {S W:Nat} {xs:List Slt} (h:Good S W xs):0<S:=by have:=h.sets;omega
theorem Good.s8 {S W:Nat} {xs:List Slt} (h:Good S W xs):S≤8:=by have:=h.sets;omega
theorem Good.set_lt {S W:Nat} {xs:List Slt} (h:Good S W xs) (li:Int):XN S li<S:=Nat.mod_lt _ h.spos
theorem Good.len64 {S W:Nat} {xs:List Slt} (h:Good S W xs):xs.length≤64:=by
 rw [h.len];exact Nat.mul_le_mul h.s8 h.way8
theorem Good.seg_len {S W:Nat} {xs:List Slt} (h:Good S W xs) (li:Int):(seg W xs (XN S li)).length=W:=seg_length h.len (h.set_lt li)
theorem Good.fit {S W:Nat} {xs:List Slt} (h:Good S W xs) (li:Int):XN S li*W+W≤S*W:=JX (h.set_lt li)
theorem div_of {i t k W:Nat} (hk:k<W) (h:i=t*W+k):i / W=t:=by
 subst h
 rw [Nat.mul_comm,Nat.mul_add_div (by omega),Nat.div_eq_of_lt hk,Nat.add_zero]
theorem mod_of {i t W:Nat} (hw:0<W) (h:i / W=t):∃k,k<W∧i=t*W+k:=by
 refine ⟨i % W,Nat.mod_lt _ hw,?_⟩
 subst h
 have:=Nat.div_add_mod i W
 rw [Nat.mul_comm] at this
 omega
theorem Good.where {S W:Nat} {xs:List Slt} (h:Good S W xs) (li:Int):
 (∃(k:Nat) (y:Slt),(seg W xs (XN S li)).findIdx (X9 li)=k∧xs.findIdx (X9 li)=XN S li*W+k∧k<W∧xs[XN S li*W+k]? =some y∧y.st≠0∧y.li=li∧0≤li∧hit (X9 li) (seg W xs (XN S li))=(k:Int)∧hit (X9 li) xs=((XN S li*W+k:Nat):Int)∧XN S li*W+k<xs.length)∨
 (hit (X9 li) (seg W xs (XN S li))= -1∧hit (X9 li) xs= -1∧xs.findIdx (X9 li)=xs.length∧∀x∈xs,X9 li x=false):=by
 rcases hit_or (X9 li) xs with ⟨i,y,e1,e2,e3,e4,e5,e6⟩|⟨e1,e2,e3⟩
 ·obtain ⟨h1,h2⟩:=Qby e4
  obtain ⟨h3,h4⟩:=h.home i y e3 h1
  rw [h2] at h3 h4
  obtain ⟨k,hk,rfl⟩:=mod_of (by have:=h.way1;omega) h4
  have hs:(seg W xs (XN S li))[k]? =some y:=by rw [Qh6 _ _ _ hk];exact e3
  have hb:∀x∈(seg W xs (XN S li)).take k,X9 li x=false:=by
   intro x hx
   obtain ⟨j,hj,rfl⟩:=List.mem_take_iff_getElem.1 hx
   have hjk:j<k:=by omega
   have hjl:j<(seg W xs (XN S li)).length:=by omega
   have hxj:(seg W xs (XN S li))[j]? =some (seg W xs (XN S li))[j]:=List.getElem?_eq_getElem hjl
   rw [Qh6 _ _ _ (by omega)] at hxj
   obtain ⟨hl,he⟩:=Vg hxj
   exact e6 _ (List.mem_take_iff_getElem.2 ⟨XN S li*W+j,by omega,he⟩)
  exact .inl ⟨k,y,Qim hs e4 hb,e2,hk,e3,h1,h2,h3,hit_at hs e4 hb,e1,e5⟩
 ·refine .inr ⟨Qed ?_,e1,e2,e3⟩
  intro x hx
  exact e3 x (List.mem_of_mem_drop (List.mem_of_mem_take hx))
theorem Good.room {S W:Nat} {xs:List Slt} (h:Good S W xs) (li:Int):
 (∃(k:Nat) (y:Slt),(seg W xs (XN S li)).findIdx Qch=k∧k<W∧xs[XN S li*W+k]? =some y∧y.st=0∧hit Qch (seg W xs (XN S li))=(k:Int)∧XN S li*W+k<xs.length∧∀x∈(seg W xs (XN S li)).take k,Qch x=false)∨
 (hit Qch (seg W xs (XN S li))= -1∧(seg W xs (XN S li)).findIdx Qch=W∧∀x∈seg W xs (XN S li),x.st≠0):=by
 have hl:=h.seg_len li
 rcases hit_or Qch (seg W xs (XN S li)) with ⟨k,y,e1,e2,e3,e4,e5,e6⟩|⟨e1,e2,e3⟩
 ·have hk:k<W:=by omega
  rw [Qh6 _ _ _ hk] at e3
  exact .inl ⟨k,y,e2,hk,e3,by simpa [Qch] using e4,e1,(Vg e3).1,e6⟩
 ·refine .inr ⟨e1,by omega,fun x hx=>?_⟩
  simpa [Qch] using e3 x hx
def Qc5 (S W:Nat) (xs:List Slt) (li:Int):Nat:=
 if xs.findIdx (X9 li)<xs.length then xs.findIdx (X9 li) else if (seg W xs (XN S li)).findIdx Qch<W then XN S li*W+(seg W xs (XN S li)).findIdx Qch else xs.length
def Qbn (li st:Int):Prop:=li<0∨st<1∨9<st
instance (li st:Int):Decidable (Qbn li st):=inferInstanceAs (Decidable (_∨_∨_))
def setVal (S W:Nat) (xs:List Slt) (li st:Int):Int:=if Qbn li st then 1 else if Qc5 S W xs li<xs.length then 0 else 13
def setXs (S W:Nat) (xs:List Slt) (u li st:Int) (l:List Int) (h:l.length=8):List Slt:=if Qbn li st then xs else xs.set (Qc5 S W xs li) ⟨st,li,l,u+1,h⟩
def setU (S W:Nat) (xs:List Slt) (u li st:Int):Int:=if Qbn li st then u else if Qc5 S W xs li<xs.length then u+1 else u
def Slt.use (x:Slt) (u:Int):Slt:=⟨x.st,x.li,x.l,u,x.h⟩
def touchXs (xs:List Slt) (u li:Int):List Slt:=match xs[xs.findIdx (X9 li)]? with|some x=>xs.set (xs.findIdx (X9 li)) (x.use (u+1))|none=>xs
def Qdk (xs:List Slt) (u li:Int):Int:=if xs.findIdx (X9 li)<xs.length then u+1 else u
def XM (xs:List Slt) (li:Int):Bool:=decide (xs.findIdx (X9 li)<xs.length)
def dropXs (xs:List Slt) (li:Int):List Slt:=xs.set (xs.findIdx (X9 li)) sltZ
def Qy (xs:List Slt) (li:Int):Slt:=match xs[xs.findIdx (X9 li)]? with|some x=>x|none=>sltZ
def Jx (S W:Nat) (xs:List Slt) (li:Int):Bool:=decide (0≤li)&&decide ((seg W xs (XN S li)).findIdx Qch<W)
def Qau (S W:Nat) (xs:List Slt) (li:Int):Int:=if li<0 then -1 else if (seg W xs (XN S li)).findIdx Qch<W then -1 else eld (seg W xs (XN S li))
def live (xs:List Slt):List Slt:=xs.filter (fun x=>x.st !=0)
theorem Qhg {α:Type} (xs:List α) (a:α):xs.set xs.length a=xs:=List.set_eq_of_length_le (Nat.le_refl _)
theorem Good.put {S W:Nat} {xs:List Slt} (h:Good S W xs) (k:Nat) (x:Slt) (hx:x.st≠0→0≤x.li∧k / W=XN S x.li):Good S W (xs.set k x):=by
 refine ⟨h.sets,h.way1,h.way8,by rw [List.length_set,h.len],fun i y hy h0=>?_⟩
 rw [List.getElem?_set] at hy
 split at hy
 ·rename_i e
  subst e
  split at hy
  ·injection hy with hy;subst hy;exact hx h0
  ·cases hy
 ·exact h.home i y hy h0
theorem Good.setXs {S W:Nat} {xs:List Slt} (h:Good S W xs) (u li st:Int) (l:List Int) (hl:l.length=8):Good S W (setXs S W xs u li st l hl):=by
 unfold Go.Proofs.YtlidfghgjjffaaaGreatDoor.setXs
 split
 ·exact h
 ·rename_i hb
  have h0:0≤li:=by unfold Qbn at hb;omega
  unfold Qc5
  rcases h.where li with ⟨k,y,e1,e2,e3,e4,e5,e6,e7,e8,e9,e10⟩|⟨e1,e2,e3,e4⟩
  ·rw [if_pos (by omega),e2]
   exact h.put _ _ (fun _=>⟨h0,div_of e3 rfl⟩)
  ·rw [if_neg (by omega)]
   split
   ·rename_i h2
    exact h.put _ _ (fun _=>⟨h0,div_of h2 rfl⟩)
   ·rw [Qhg];exact h
theorem Good.touchXs {S W:Nat} {xs:List Slt} (h:Good S W xs) (u li:Int):Good S W (touchXs xs u li):=by
 unfold Go.Proofs.YtlidfghgjjffaaaGreatDoor.touchXs
 split
 ·rename_i x hx
  exact h.put _ _ (fun h0=>h.home _ x hx h0)
 ·exact h
theorem Good.dropXs {S W:Nat} {xs:List Slt} (h:Good S W xs) (li:Int):Good S W (dropXs xs li):=h.put _ _ (fun h0=>absurd rfl h0)
theorem setU_le {S W:Nat} {xs:List Slt} {u li st:Int}:u≤setU S W xs u li st∧setU S W xs u li st≤u+1:=by
 unfold setU;split<;>(try split)<;>omega
theorem touchU_le {xs:List Slt} {u li:Int}:u≤Qdk xs u li∧Qdk xs u li≤u+1:=by
 unfold Qdk;split<;>omega
theorem Good.new {S W:Nat} (h1:S=1∨S=2∨S=4∨S=8) (h2:1≤W) (h3:W≤8):Good S W (List.replicate (S*W) sltZ):=by
 refine ⟨h1,h2,h3,by simp,fun i x hx h0=>?_⟩
 rw [List.getElem?_replicate] at hx
 split at hx
 ·injection hx with hx;subst hx;exact absurd rfl h0
 ·cases hx
theorem live_take {xs:List Slt} {k:Nat} {x:Slt} (h:xs[k]? =some x):live (xs.take (k+1))=live (xs.take k)++(if x.st=0 then [] else [x]):=by
 obtain ⟨hk,rfl⟩:=Vg h
 unfold live
 rw [List.take_succ_eq_append_getElem hk,List.filter_append]
 congr 1
 split<;>simp [*]
theorem live_le (xs:List Slt):(live xs).length≤xs.length:=List.length_filter_le _ _
section
variable {xs:List Slt} {k:Nat} {x:Slt} (h:xs[k]? =some x) (r:List Value) (t:TypeId) (f:Nat×Nat)
include h
theorem slt_row:XF (some (.cells (sq Slt.enc xs r) t f)) (k*11) 11=slc x:=by
 have:=Qcm Slt.len h r t f 0 11 (by omega)
 rw [Nat.add_zero] at this
 rw [this]
 simp [slc,Slt.len,List.take_of_length_le]
theorem slt_rowIn:Qbo (some (.cells (sq Slt.enc xs r) t f)) (k*11) 11=true:=Qff Slt.len (Vg h).1 r t f 0 11 (by omega)
theorem slt_us:(sq Slt.enc xs r)[k*11+10]? =some (.int .i64 x.us):=by
 rw [JU Slt.len h r 10 (by omega),enc_us]
theorem slt_has:ZX (some (.cells (sq Slt.enc xs r) t (0,0))) (k*11) 11=true:=by
 have hk:=(Vg h).1
 have:=JX (k:=11) hk
 rw [Qe,JD Slt.len]
 exact decide_eq_true (show _≤_ by omega)
theorem Qh0 (y:Slt):J6 (some (.cells (sq Slt.enc xs r) t f)) (k*11) (slc y)=some (.cells (sq Slt.enc (xs.set k y) r) t f):=by
 have hk:=(Vg h).1
 have:=JX (k:=11) hk
 have e:Zz xs k [y]=xs.set k y:=by unfold Zz;rw [List.set_eq_take_append_cons_drop,if_pos hk];simp
 rw [XD,YF,←e]
 unfold slc sq
 rw [List.toList_toArray,Qae _ _ _ _ (by rw [Slt.len,Q9 Slt.len];omega)]
 have:=Qel Slt.len xs [y] k
 rw [Qdb] at this
 rw [this]
theorem slt_use (u:Int):(sq Slt.enc xs r).setIfInBounds (k*11+10) (.int .i64 u)=sq Slt.enc (xs.set k (x.use u)) r:=by
 have hk:=(Vg h).1
 have hm:=JX (k:=11) hk
 have h8:x.l.length=8:=x.h
 have e2:(Slt.enc x).set 10 (.int .i64 u)=Slt.enc (x.use u):=by
  unfold Slt.enc Slt.use
  rw [List.set_cons_succ,List.set_cons_succ,List.set_append_right _ _ (by simp [h8])]
  simp [h8]
 have hl:=Q9 Slt.len xs
 have ho:=Qh0 h r 3 (0,0) (x.use u)
 rw [XD] at ho
 injection ho with ho
 injection ho with ho
 rw [←ho]
 apply Array.toList_inj.1
 rw [Array.toList_setIfInBounds,List.toList_toArray]
 apply List.ext_getElem?
 intro j
 have hxs:∀d,d<11→(sq Slt.enc xs r).toList[k*11+d]? =(Slt.enc x)[d]?:=by
  intro d hd
  have:=JU Slt.len h r d hd
  rwa [←Array.getElem?_toList] at this
 have hsz:(sq Slt.enc xs r).toList.length=xs.length*11+r.length:=by rw [Array.length_toList,JD Slt.len]
 rw [JL _ _ _ _ (by rw [hsz];unfold slc;rw [List.toList_toArray,Slt.len];omega)]
 have hs11:(slc (x.use u)).toList.length=11:=by rw [Array.length_toList,QV]
 rw [hs11,List.getElem?_set]
 by_cases hj:k*11+10=j
 ·subst hj
  rw [if_pos rfl,if_pos (by rw [hsz];omega),if_neg (by omega),if_pos (by omega),show k*11+10-k*11=10 by omega]
  unfold slc
  rw [List.toList_toArray,enc_us];rfl
 ·rw [if_neg hj]
  split
  ·rfl
  ·split
   ·obtain ⟨d,rfl⟩:∃d,j=k*11+d:=⟨j-k*11,by omega⟩
    rw [hxs d (by omega),show k*11+d-k*11=d by omega]
    unfold slc
    rw [List.toList_toArray,←e2,List.getElem?_set_ne (by omega)]
   ·rfl
end
theorem made_slots (n:Nat):madeCells sltV.cells (n*11)=sq Slt.enc (List.replicate n sltZ) []:=by
 apply Array.ext
 ·rw [JD Slt.len];simp [madeCells]
 ·intro i h1 h2
  have hi:i<n*11:=by simpa [madeCells] using h1
  obtain ⟨k,d,hk,hd,rfl⟩:∃k d,k<n∧d<11∧i=k*11+d:=⟨i / 11,i % 11,by omega,Nat.mod_lt _ (by omega),by omega⟩
  have h3:(List.replicate n sltZ)[k]? =some sltZ:=by rw [List.getElem?_replicate,if_pos hk]
  have h4:=JU Slt.len h3 [] d hd
  rw [Array.getElem?_eq_getElem h2] at h4
  have e11:sltV.cells.size=11:=rfl
  have hmod:(k*11+d) % 11=d:=by omega
  simp only [madeCells,Array.getElem_map,Array.getElem_range]
  have h5:(sltV.cells)[d]? =(Slt.enc sltZ)[d]?:=by rw [show sltV.cells=(Slt.enc sltZ).toArray from rfl,List.getElem?_toArray]
  rw [←h4,Array.getElem?_eq_getElem (by rw [e11];exact hd)] at h5
  rw [e11,hmod,getElem!_pos sltV.cells d (by rw [e11];exact hd)]
  exact Option.some.inj h5
end
section
set_option maxHeartbeats 1000000
abbrev Sta:=List Slt×Int
def zl8:List Int:=[0,0,0,0,0,0,0,0]
def mayR (st:Int):Bool:=YO st||st==6
def mayWr (st:Int):Bool:=st==2||st==3
def isLn (li:Int):Bool:=decide (0≤li)&&decide (li<64)
def isWd (k:Int):Bool:=decide (0≤k)&&decide (k<8)
def restB (x:Slt):Bool:=x.st==0||YO x.st
def Qgh (xs:List Slt):Bool:=xs.all restB
def Qeo (xs:List Slt) (li:Int):Bool:=mayWr (Qy xs li).st
def JT (kd:Int) (x:Slt) (ke:Bool):Ms:=if x.st=3∨x.st=9 then ⟨kd,x.li,true,ke,x.l,x.h⟩ else ms4 kd x.li false ke
def tb (kd st:Int):Int:=
 if kd=8 then (if st=4 then 1 else 0)
 else if kd=9 then (if st=4 then 2 else 0)
 else if kd=10 then (if st=5∨st=6 then 2 else 0)
 else if kd=11 then (if st=7∨st=8∨st=9 then 10 else 0)
 else if kd=12 then (if st=1∨st=2∨st=3 then 10 else if st=6 then 5 else if st=7∨st=9 then 8 else 0)
 else if kd=13 then (if st=2∨st=3 then 1 else if st=7∨st=9 then 8 else 0)
 else if kd=14 then 11 else 0
def Y4 (m:Ms) (x:Slt) (nx:Int):List Int:=if nx=5∨nx=8 then zl8 else if m.kd=13 then x.l else m.l
theorem Qd7 (m:Ms) (x:Slt) (nx:Int):(Y4 m x nx).length=8:=by
 unfold Y4
 split
 ·rfl
 ·split
  ·exact x.h
  ·exact m.h
def Xh (kd:Int) (x:Slt) (nx:Int):List Ms:=if kd=12 then [JT 6 x false] else if kd=13 then [JT 7 x (nx==1)] else []
section
variable (S N:Nat)
def setS (s:Sta) (li st:Int) (l:List Int) (h:l.length=8):Sta:=(setXs S N s.1 s.2 li st l h,setU S N s.1 s.2 li st)
def Qer (s:Sta) (li:Int):Sta:=(touchXs s.1 s.2 li,Qdk s.1 s.2 li)
def Qit (s:Sta) (li:Int):Sta:=(dropXs s.1 li,s.2)
def Qg4 (st:Int):Int:=if st=3 then 9 else 7
def outF (s:Sta) (li:Int):Sta×List Ms:=
 if YO (Qy s.1 li).st=true then (setS S N s li (Qg4 (Qy s.1 li).st) (Qy s.1 li).l (Qy s.1 li).h,[JT 3 (Qy s.1 li) false]) else (s,[])
def getF (s:Sta) (li st kd:Int):Sta×List Ms:=
 if Jx S N s.1 li=true then (setS S N s li st zl8 rfl,[ms4 kd li false false]) else outF S N s (Qau S N s.1 li)
def loadF (s:Sta) (li k:Int):Sta×(Int×Bool×List Ms):=
 if (isLn li&&isWd k)=true then
  (if mayR (Qy s.1 li).st=true then (Qer s li,((Qy s.1 li).l.getD k.toNat 0,true,[]))
   else if Qgh s.1=true then ((getF S N s li 4 1).1,(0,false,(getF S N s li 4 1).2)) else (s,(0,false,[])))
 else (s,(0,false,[]))
def reachF (s:Sta) (li:Int):Sta×List Ms:=
 if (isLn li&&!Qeo s.1 li&&Qgh s.1)=true then
  (if XM s.1 li=true then (setS S N s li 6 (Qy s.1 li).l (Qy s.1 li).h,[ms4 2 li false false]) else getF S N s li 5 2)
 else (s,[])
def storeF (s:Sta) (li k v:Int):Sta×(Bool×List Ms):=
 if (isLn li&&isWd k)=true then
  (if Qeo s.1 li=true then (setS S N s li 3 ((Qy s.1 li).l.set k.toNat v) (by rw [List.length_set];exact (Qy s.1 li).h),(true,[]))
   else ((reachF S N s li).1,(false,(reachF S N s li).2)))
 else (s,(false,[]))
def evictF (s:Sta) (li:Int):Sta×(List Ms×Int):=
 if Qgh s.1=true then ((outF S N s li).1,((outF S N s li).2,if (outF S N s li).2=[] then 14 else 0)) else (s,([],15))
def Qfn (s:Sta) (m:Ms) (nx:Int):Sta:=if nx=10 then Qit s m.li else if nx=11 then s else setS S N s m.li nx (Y4 m (Qy s.1 m.li) nx) (Qd7 _ _ _)
def hearF (s:Sta) (m:Ms):Sta×(List Ms×Int):=
 if (mg m&&Y5 m.kd)=true then
  (if tb m.kd (Qy s.1 m.li).st=0 then (s,([],16))
   else (Qfn S N s m (tb m.kd (Qy s.1 m.li).st),(Xh m.kd (Qy s.1 m.li) (tb m.kd (Qy s.1 m.li).st),0)))
 else (s,([],1))
end
def Ms.putDi (m:Ms) (b:Bool):Ms:=⟨m.kd,m.li,b,m.ke,m.l,m.h⟩
def Ms.putKe (m:Ms) (b:Bool):Ms:=⟨m.kd,m.li,m.di,b,m.l,m.h⟩
def Ms.putL (m:Ms) (l:List Int) (h:l.length=8):Ms:=⟨m.kd,m.li,m.di,m.ke,l,h⟩
def Slt.putL (x:Slt) (l:List Int) (h:l.length=8):Slt:=⟨x.st,x.li,l,x.us,h⟩
theorem Qg6 (a b:Int) (d e:Bool) (k:Int):(msc (ms4 a b d e)).setIfInBounds 0 (.int .i64 k)=msc (ms4 k b d e):=by simp [msc,Ms.enc,ms4]
theorem Qg5 (a b:Int) (d e:Bool) (k:Int):(msc (ms4 a b d e)).setIfInBounds 1 (.int .i64 k)=msc (ms4 a k d e):=by simp [msc,Ms.enc,ms4]
theorem QZ (m:Ms) (b:Bool):(msc m).setIfInBounds 2 (.bool b)=msc (m.putDi b):=by simp [msc,Ms.enc,Ms.putDi]
theorem QY (m:Ms) (b:Bool):(msc m).setIfInBounds 3 (.bool b)=msc (m.putKe b):=by simp [msc,Ms.enc,Ms.putKe]
theorem msc_put (m:Ms) (l:List Int) (h:l.length=8) (t:TypeId) (f:Nat×Nat):J6 (some (.cells (msc m) t f)) 4 (vs l)=some (.cells (msc (m.putL l h)) t f):=by
 rw [XD]
 have hm:=m.h
 simp [msc,Ms.enc,Ms.putL,vs,Zz,h,hm]
theorem Zb (m:Ms) (x:Slt) (t:TypeId) (f:Nat×Nat):J6 (some (.cells (msc m) t f)) 4 (vs x.l)=some (.cells (msc (m.putL x.l x.h)) t f):=msc_put m x.l x.h t f
theorem slc_word (x:Slt) (k:Nat) (h:k<8):(slc x)[2+k]? =some (.int .u64 (x.l.getD k 0)):=by
 have h8:x.l.length=8:=x.h
 unfold slc Slt.enc
 rw [List.getElem?_toArray,show 2+k=k+1+1 by omega,List.getElem?_cons_succ,List.getElem?_cons_succ,List.getElem?_append_left (by simp [h8,h]),List.getElem?_map,List.getD_eq_getElem?_getD,List.getElem?_eq_getElem (by omega)]
 rfl
theorem slc_setWord (x:Slt) (k:Nat) (v:Int) (h:k<8):(slc x).setIfInBounds (2+k) (.int .u64 v)=slc (x.putL (x.l.set k v) (by rw [List.length_set];exact x.h)):=by
 have h8:x.l.length=8:=x.h
 unfold slc Slt.enc Slt.putL
 rw [List.setIfInBounds_toArray,show 2+k=k+1+1 by omega,List.set_cons_succ,List.set_cons_succ,List.set_append_left _ _ (by simp [h8,h]),List.map_set]
def Sane (xs:List Slt):Prop:=∀x∈xs,0≤x.st∧x.st≤9
theorem Sane.put {xs:List Slt} (h:Sane xs) (k:Nat) (y:Slt) (hy:0≤y.st∧y.st≤9):Sane (xs.set k y):=by
 intro x hx
 rcases List.mem_or_eq_of_mem_set hx with h1|rfl
 ·exact h x h1
 ·exact hy
theorem Sane.set {S N:Nat} {s:Sta} (h:Sane s.1) (li st:Int) (l:List Int) (hl:l.length=8):Sane (setS S N s li st l hl).1:=by
 show Sane (setXs S N s.1 s.2 li st l hl)
 unfold setXs
 split
 ·exact h
 ·rename_i hb
  exact h.put _ _ (by unfold Qbn at hb;show 0≤st∧st≤9;omega)
theorem Sane.touch {s:Sta} (h:Sane s.1) (li:Int):Sane (Qer s li).1:=by
 show Sane (touchXs s.1 s.2 li)
 unfold touchXs
 split
 ·rename_i x hx
  exact h.put _ _ (h x (List.mem_of_getElem? hx))
 ·exact h
theorem Sane.drop {s:Sta} (h:Sane s.1) (li:Int):Sane (Qit s li).1:=h.put _ _ (by decide)
theorem Sane.new (n:Nat):Sane (List.replicate n sltZ):=by
 intro x hx
 rw [List.eq_of_mem_replicate hx]
 decide
theorem Qcc (xs:List Slt) (li:Int):(Qy xs li∈xs∧X9 li (Qy xs li)=true∧XM xs li=true)∨(Qy xs li=sltZ∧XM xs li=false∧∀x∈xs,X9 li x=false):=by
 unfold Qy XM
 by_cases h:xs.findIdx (X9 li)<xs.length
 ·rw [List.getElem?_eq_getElem h]
  exact .inl ⟨List.getElem_mem h,List.findIdx_getElem,by simpa using h⟩
 ·rw [List.getElem?_eq_none (by omega)]
  refine .inr ⟨rfl,by simpa using h,fun x hx=>?_⟩
  have e:xs.findIdx (X9 li)=xs.length:=Nat.le_antisymm List.findIdx_le_length (by omega)
  simpa using List.findIdx_eq_length.1 e x hx
theorem Qdv {xs:List Slt} (h:Sane xs) (li:Int):0≤(Qy xs li).st∧(Qy xs li).st≤9:=by
 rcases Qcc xs li with ⟨h1,_⟩|⟨h1,_⟩
 ·exact h _ h1
 ·rw [h1];decide
theorem find_line {xs:List Slt} {li:Int} (h:(Qy xs li).st≠0):(Qy xs li).li=li∧XM xs li=true:=by
 rcases Qcc xs li with ⟨_,h1,h2⟩|⟨h1,_⟩
 ·exact ⟨(Qby h1).2,h2⟩
 ·rw [h1] at h;exact absurd rfl h
theorem find_drop {xs:List Slt} {li:Int}:XM xs li=((Qy xs li).st !=0):=by
 rcases Qcc xs li with ⟨_,h1,h2⟩|⟨h1,h2,_⟩
 ·rw [h2];have:=(Qby h1).1;simp [this]
 ·rw [h1,h2];rfl
theorem idle_find {xs:List Slt} (h:Qgh xs=true) (li:Int):(Qy xs li).st=0∨YO (Qy xs li).st=true:=by
 rcases Qcc xs li with ⟨h1,_⟩|⟨h1,_⟩
 ·have:=List.all_eq_true.1 h _ h1
  unfold restB at this
  rw [Bool.or_eq_true] at this
  simpa using this
 ·left;rw [h1];rfl
theorem rest_iff (st:Int):YO st=true↔1≤st∧st≤3:=by unfold YO;simp
theorem tb_le (kd st:Int):0≤tb kd st∧tb kd st≤11:=by
 unfold tb
 repeat' split
 all_goals omega
theorem tb_line {kd st:Int} (h:tb kd st≠0) (h14:kd≠14):st≠0:=by
 rintro rfl
 apply h
 unfold tb
 simp [h14]
theorem Qh4 {S N:Nat} {s:Sta} {li st:Int} {l:List Int} {h:l.length=8}:s.2≤(setS S N s li st l h).2∧(setS S N s li st l h).2≤s.2+1:=setU_le
theorem touchS_u {s:Sta} {li:Int}:s.2≤(Qer s li).2∧(Qer s li).2≤s.2+1:=touchU_le
theorem dropS_u {s:Sta} {li:Int}:s.2≤(Qit s li).2∧(Qit s li).2≤s.2+1:=by unfold Qit;show s.2≤s.2∧_;omega
theorem outF_u {S N:Nat} {s:Sta} {li:Int}:s.2≤(outF S N s li).1.2∧(outF S N s li).1.2≤s.2+1:=by
 unfold outF;split
 ·exact Qh4
 ·show s.2≤s.2∧s.2≤s.2+1;omega
theorem getF_u {S N:Nat} {s:Sta} {li st kd:Int}:s.2≤(getF S N s li st kd).1.2∧(getF S N s li st kd).1.2≤s.2+1:=by
 unfold getF;split
 ·exact Qh4
 ·exact outF_u
theorem Qgw {s:Sta}:s.2≤s.2∧s.2≤s.2+1:=by omega
theorem loadF_u {S N:Nat} {s:Sta} {li k:Int}:s.2≤(loadF S N s li k).1.2∧(loadF S N s li k).1.2≤s.2+1:=by
 unfold loadF;split
 ·split
  ·exact touchS_u
  ·split
   ·exact getF_u
   ·exact Qgw
 ·exact Qgw
theorem reachF_u {S N:Nat} {s:Sta} {li:Int}:s.2≤(reachF S N s li).1.2∧(reachF S N s li).1.2≤s.2+1:=by
 unfold reachF;split
 ·split
  ·exact Qh4
  ·exact getF_u
 ·exact Qgw
theorem storeF_u {S N:Nat} {s:Sta} {li k v:Int}:s.2≤(storeF S N s li k v).1.2∧(storeF S N s li k v).1.2≤s.2+1:=by
 unfold storeF;split
 ·split
  ·exact Qh4
  ·exact reachF_u
 ·exact Qgw
theorem evictF_u {S N:Nat} {s:Sta} {li:Int}:s.2≤(evictF S N s li).1.2∧(evictF S N s li).1.2≤s.2+1:=by
 unfold evictF;split
 ·exact outF_u
 ·exact Qgw
theorem hearF_u {S N:Nat} {s:Sta} {m:Ms}:s.2≤(hearF S N s m).1.2∧(hearF S N s m).1.2≤s.2+1:=by
 unfold hearF;split
 ·split
  ·exact Qgw
  ·show s.2≤(Qfn S N s m _).2∧(Qfn S N s m _).2≤s.2+1
   unfold Qfn
   split
   ·exact dropS_u
   ·split
    ·exact Qgw
    ·exact Qh4
 ·exact Qgw
end
end Go.Proofs.YtlidfghgjjffaaaGreatDoor
