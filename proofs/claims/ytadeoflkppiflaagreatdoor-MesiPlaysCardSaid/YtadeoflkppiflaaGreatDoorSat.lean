/- Texts of the walk, one behind the other: Rya Ryb Ryc Ryd Rye. No condition. -/
import Derived.Test.YtadeoflkppiflaaGreatDoorSaa
import Derived.Test.YtadeoflkppiflaaGreatDoorSad
import Derived.Test.YtadeoflkppiflaaGreatDoorSai
import Derived.Test.YtadeoflkppiflaaGreatDoorSaj
import Derived.Test.YtadeoflkppiflaaGreatDoorSap
import Derived.Test.YtadeoflkppiflaaGreatDoorSaq
import Derived.Test.YtadeoflkppiflaaGreatDoorSar
import Derived.BigQuiet
import Derived.Deep.Cut
import Derived.Deep.CutBlock
import Derived.Deep.CutRange
import Derived.Deep.DeepCutAuto
import Derived.Deep.QuietTactic
import Derived.Deep.RegionHeld3
import Derived.Deep.RegionWith
namespace Go.Proofs.YtadeoflkppiflaaGreatDoor
open Go.RowKit
set_option linter.unusedVariables false
set_option maxHeartbeats 1000000
set_option maxRecDepth 100000
section
structure RLay where
 sy:Nat
 q:Nat
 be:Nat
 g:Nat
 b:Nat
 po:Nat
 en:Nat
 ab:Nat
 ec:Nat
 er:List Value
 ac:Nat
 ar:List Value
def RLay.enc (z:RLay) (c:Cg):List Value:=c.enc++[.pointer (some ⟨z.q,0,none⟩),.slice (some ⟨z.en,0,none⟩) c.li z.ec,.slice (some ⟨z.ab,0,none⟩) c.co z.ac,.slice (some ⟨z.po,0,none⟩) c.co c.co]
def RLay.base (z:RLay):List Nat:=[z.sy,z.q,z.g,z.b,z.po,z.en,z.ab]++opt z.q z.be
def Yz (y:Po×Pt):List Value:=[.slice y.1.uA y.2.up.length y.1.uc,.slice y.1.nA y.2.an.length y.1.nc,.slice y.1.dA y.2.dn.length y.1.dc]
theorem Qdw (y:Po×Pt):(Yz y).length=3:=rfl
def Qbc (y:Po×Pt):List Value:=[.pointer (some ⟨y.1.g,0,none⟩)]
theorem Jp (y:Po×Pt):(Qbc y).length=1:=rfl
def RAgW (W w:World) (g a b S N:Nat) (s:Sta):Prop:=RAg w g a b S N s
theorem RAgW.keepL {W w w':World} {g a b S N:Nat} {s:Sta} {l:List Nat} (h:RAgW W w g a b S N s) (hc:Chg l w w') (hl:∀x∈l,W.heap.size≤x) (hg:g∉l) (ha:a∉l) (hb:b∉l):RAgW W w' g a b S N s:=
 ⟨h.1.keep hc ha hb,hc.keep h.2.1 hg,h.2.2⟩
theorem RAgW.old2 {W w:World} {g a b S N:Nat} {s:Sta} (h:RAgW W w g a b S N s):∀x∈[a,b],x<w.heap.size:=RAg.old2 h
def RSysW (W w:World) (q be g b n v room:Nat) (es:List Ent) (xs:List Int):Prop:=Chg [] W w∧RSys w q be g b n v room es xs
theorem RSysW.keep {W w w':World} {q be g b n v room:Nat} {es:List Ent} {xs:List Int} (h:RSysW W w q be g b n v room es xs) (hc:Chg [] w w'):RSysW W w' q be g b n v room es xs:=⟨h.1.trans hc,h.2.keep hc (by simp)⟩
theorem RDev.oldg {w:World} {g b n v:Nat} {xs:List Int} (h:RDev w g b n v xs):g<w.heap.size:=(old (h.1.choose_spec)).lt
theorem RDev.oldb {w:World} {g b n v:Nat} {xs:List Int} (h:RDev w g b n v xs):b<w.heap.size:=(old (h.2.1.choose_spec)).lt
theorem RLay.beB {z:RLay} {k:Nat} (hk:k=z.sy∨k=z.q∨k=z.g∨k=z.b∨k=z.po∨k=z.en∨k=z.be):k∈z.base:=by
 unfold RLay.base
 exact Tz135
theorem RLay.abB {z:RLay}:z.ab∈z.base:=by
 unfold RLay.base
 simp
def RPok (W w:World) (po S N:Nat) (y:Po×Pt):Prop:=
 RAgW W w y.1.g y.1.a y.1.b S N y.2.s∧Vof 12 38 Ms.enc w po y.1.ub y.1.uA y.1.uc y.2.up∧Vof 12 38 Ms.enc w po y.1.nb y.1.nA y.1.nc y.2.an∧Vof 12 38 Ms.enc w po y.1.db y.1.dA y.1.dc y.2.dn
theorem RPok.keep {W w w':World} {po S N:Nat} {y:Po×Pt} {l:List Nat} (h:RPok W w po S N y) (hc:Chg l w w') (hl:∀x∈l,W.heap.size≤x) (hd:∀x∈y.1.foot po,x∉l):RPok W w' po S N y:=by
 exact Tz71
theorem RPok.old {W w:World} {po S N:Nat} {y:Po×Pt} (h:RPok W w po S N y) (hp:Old w po):∀x∈y.1.foot po,x<w.heap.size:=by
 exact Tz72
def RLay.all (z:RLay) (L:List (Po×Pt)):List Nat:=z.base++feet z.po L
structure Rsd (W w:World) (c:Cg) (z:RLay) (L:List (Po×Pt)) (en:List En) (es:List Ent) (xs:List Int):Prop where
 chg:Chg [] W w
 sys:w.heap[z.sy]? =some (.cells (z.enc c).toArray 107 (0,0))
 cap:c.co≤z.ac∧c.li≤z.ec
 mem:RSysW W w z.q z.be z.g z.b c.li c.vo c.qu es xs
 ports:w.heap[z.po]? =some (.cells (sq Yz L []) 121 (0,0))
 cores:L.length=c.co
 ents:w.heap[z.en]? =some (.cells (sq En.enc en z.er) 117 (0,0))
 lines:en.length=c.li
 ok:∀y∈L,RPok W w z.po c.se c.wa y
 apart:(z.all L).Nodup
 new:∀k∈z.all L,W.heap.size≤k
 agts:w.heap[z.ab]? =some (.cells (sq Qbc L z.ar) 127 (0,0))
section
variable {W w w':World} {c:Cg} {z:RLay} {L:List (Po×Pt)} {en:List En} {es:List Ent} {xs:List Int} (h:Rsd W w c z L en es xs)
include h
theorem Rsd.oldp:Old w z.po:=Go.Proofs.YtadeoflkppiflaaGreatDoor.old h.ports
theorem Rsd.old:∀k∈z.all L,k<w.heap.size:=by
 intro k hk
 unfold RLay.all RLay.base at hk
 simp only [List.mem_append,List.mem_cons,Vn,or_false,ZX,Jc] at hk
 rcases hk with ((h1|h1|h1|h1|h1|h1|h1)|h1)|⟨y,hy,h1⟩
 ·rw [h1];exact ZS h.sys
 ·rw [h1];exact h.mem.2.1.oldq.lt
 ·rw [h1];exact h.mem.2.2.1.oldg
 ·rw [h1];exact h.mem.2.2.1.oldb
 ·rw [h1];exact ZS h.ports
 ·rw [h1];exact ZS h.ents
 ·rw [h1];exact ZS h.agts
 ·rw [h1.1];exact h.mem.2.1.olde.lt
 ·exact (h.ok y hy).old h.oldp k h1
theorem Rsd.own {i:Nat} {y:Po×Pt} (hy:L[i]? =some y):∀k∈y.1.foot z.po,k∉z.base∧(∀j y',L[j]? =some y'→j≠i→k∉y'.1.foot z.po)∧k∈z.all L:=by
 intro k hk
 have hm:k∈feet z.po L:=Jc.2 ⟨y,List.mem_of_getElem? hy,hk⟩
 have hn:=h.apart
 unfold RLay.all at hn ⊢
 exact Tz51
theorem Rsd.nodupB:z.base.Nodup:=(List.nodup_append.1 h.apart).1
theorem Rsd.foot1 {y:Po×Pt} (hy:y∈L):(y.1.foot z.po).Nodup:=by
 have hf:=(List.nodup_append.1 h.apart).2.1
 unfold feet List.Nodup at hf
 exact (List.pairwise_flatten.1 hf).1 _ (List.mem_map_of_mem hy)
theorem Rsd.keep (hc:Chg [] w w'):Rsd W w' c z L en es xs:=
 ⟨h.chg.trans hc,hc.keep h.sys (by simp),h.cap,h.mem.keep hc,hc.keep h.ports (by simp),h.cores,hc.keep h.ents (by simp),h.lines,fun y hy=>(h.ok y hy).keep hc (by simp) (by simp),h.apart,h.new,hc.keep h.agts (by simp)⟩
theorem Rsd.keepL {l:List Nat} (hc:Chg l w w') (hl:∀k∈l,k∉z.all L) (hw:∀k∈l,W.heap.size≤k):Rsd W w' c z L en es xs:=by
 have e:∀k∈z.all L,k∉l:=fun k hk hm=>hl k hm hk
 have eb:∀k∈z.base,k∉l:=fun k hk=>e k (List.mem_append_left _ hk)
 have e6:z.sy∉l∧z.q∉l∧z.g∉l∧z.b∉l∧z.po∉l∧z.en∉l:=by
  refine ⟨eb _ ?_,eb _ ?_,eb _ ?_,eb _ ?_,eb _ ?_,eb _ ?_⟩<;>simp [RLay.base]
 have e7:z.be∉l:=by
  by_cases hb:z.be=z.q
  ·rw [hb];exact e6.2.1
  ·exact eb _ (by simp [RLay.base,ZX,hb])
 refine ⟨h.chg.trans' hc (fun k hk=>.inr (hw k hk)),hc.keep h.sys e6.1,h.cap,⟨h.mem.1.trans' hc (fun k hk=>.inr (hw k hk)),h.mem.2.1.keep hc e6.2.1 e7,h.mem.2.2.1.keep hc e6.2.2.1 e6.2.2.2.1,h.mem.2.2.2⟩,hc.keep h.ports e6.2.2.2.2.1,h.cores,hc.keep h.ents e6.2.2.2.2.2,h.lines,?_,h.apart,h.new,hc.keep h.agts (eb _ RLay.abB)⟩
 intro y hy
 refine (h.ok y hy).keep hc hw (fun k hk=>e k ?_)
 exact List.mem_append_right _ (Jc.2 ⟨y,hy,hk⟩)
end
theorem RLay.inB {z:RLay} {L:List (Po×Pt)} {k:Nat} (hk:k∈z.base):k∈z.all L:=List.mem_append_left _ hk
theorem sq_sameR {α:Type} {enc:α→List Value} {xs:List α} {i:Nat} {a b:α} {r:List Value} (h:xs[i]? =some a) (he:enc b=enc a):sq enc (xs.set i b) r=sq enc xs r:=by
 exact Tz102
def RTo (W w:World) (c:Cg) (z:RLay) (L:List (Po×Pt)) (z':RLay) (L':List (Po×Pt)) (en:List En) (es:List Ent) (xs:List Int) (w':World):Prop:=
 Rsd W w' c z' L' en es xs∧Chg (z.all L) w w'∧∀k∈z'.all L',k∈z.all L∨w.heap.size≤k
theorem RTo.trans {W w w1 w2:World} {c:Cg} {z z1 z2:RLay} {L L1 L2:List (Po×Pt)} {en1 en2:List En} {es1 es2:List Ent} {xs1 xs2:List Int}
 (h1:RTo W w c z L z1 L1 en1 es1 xs1 w1) (h2:RTo W w1 c z1 L1 z2 L2 en2 es2 xs2 w2):RTo W w c z L z2 L2 en2 es2 xs2 w2:=by
 refine ⟨h2.1,h1.2.1.trans' h2.2.1 h1.2.2,fun k hk=>?_⟩
 rcases h2.2.2 k hk with h|h
 ·exact h1.2.2 k h
 ·exact .inr (Nat.le_trans h1.2.1.size h)
section
variable {W w w':World} {c:Cg} {z:RLay} {L:List (Po×Pt)} {en:List En} {es:List Ent} {xs:List Int} (h:Rsd W w c z L en es xs)
include h
theorem Rsd.stay (hc:Chg [] w w'):RTo W w c z L z L en es xs w':=⟨h.keep hc,hc.mono (by simp),fun k hk=>.inl hk⟩
theorem Rsd.inW {l:List Nat} (hl:∀k∈l,k∈z.all L):∀k∈l,W.heap.size≤k:=fun k hk=>h.new k (hl k hk)
theorem Rsd.ne6:(z.sy≠z.q∧z.sy≠z.g∧z.sy≠z.b∧z.sy≠z.po∧z.sy≠z.en)∧(z.q≠z.g∧z.q≠z.b∧z.q≠z.po∧z.q≠z.en)∧(z.g≠z.b∧z.g≠z.po∧z.g≠z.en)∧(z.b≠z.po∧z.b≠z.en)∧z.po≠z.en∧(z.be≠z.sy∧z.be≠z.g∧z.be≠z.b∧z.be≠z.po∧z.be≠z.en):=by
 have hn:=h.nodupB
 unfold RLay.base opt at hn
 exact Tz55
theorem Rsd.neA:z.ab≠z.sy∧z.ab≠z.q∧z.ab≠z.g∧z.ab≠z.b∧z.ab≠z.po∧z.ab≠z.en∧z.ab≠z.be:=by
 have hn:=h.nodupB
 unfold RLay.base opt at hn
 by_cases hb:z.be=z.q
 ·rw [if_pos hb] at hn
  simp only [List.append_nil,List.nodup_cons,List.mem_cons,Vn,or_false,not_or,List.nodup_nil,and_true,not_false_eq_true] at hn
  rw [hb]
  simp only [ne_eq]
  refine ⟨?_,?_,?_,?_,?_,?_,?_⟩<;>simp_all [eq_comm]
 ·rw [if_neg hb] at hn
  simp only [List.cons_append,List.nil_append,List.nodup_cons,List.mem_cons,Vn,or_false,not_or,List.nodup_nil,and_true,not_false_eq_true] at hn
  simp only [ne_eq]
  refine ⟨?_,?_,?_,?_,?_,?_,?_⟩<;>simp_all [eq_comm]
end
theorem rsub_new {z:RLay} {L:List (Po×Pt)} {W w:World} {c:Cg} {en:List En} {es:List Ent} {xs:List Int} (h:Rsd W w c z L en es xs) {z':RLay} {L':List (Po×Pt)} (hs:∀k∈z'.all L',k∈z.all L∨w.heap.size≤k):∀k∈z'.all L',W.heap.size≤k:=fun k hk=>by
 rcases hs k hk with h1|h1
 ·exact h.new k h1
 ·exact Nat.le_trans h.chg.size h1
section
variable {W w w':World} {c:Cg} {z:RLay} {L:List (Po×Pt)} {en:List En} {es:List Ent} {xs:List Int} (h:Rsd W w c z L en es xs)
include h
theorem Rsd.port {i:Nat} {y y':Po×Pt} (hy:L[i]? =some y) (hg9:y'.1.g=y.1.g) {l:List Nat} (hc:Chg l w w') (hl:∀k∈l,k=z.po∨k∈y.1.foot z.po)
 (hp:w'.heap[z.po]? =some (.cells (sq Yz (L.set i y') []) 121 (0,0))) (hok:RPok W w' z.po c.se c.wa y') (hf:∀k∈y'.1.foot z.po,k∈y.1.foot z.po∨w.heap.size≤k) (hn:(y'.1.foot z.po).Nodup):
 RTo W w c z L z (L.set i y') en es xs w':=by
 have n6:=h.ne6
 have hown:=h.own hy
 have hold:=h.old
 have hla:∀k∈l,k∈z.all L:=by
  intro k hk
  rcases hl k hk with h1|h1
  ·exact RLay.inB (RLay.beB (by simp [h1]))
  ·exact (hown k h1).2.2
 have hw:=h.inW hla
 have nb:∀k,k∈z.base→k≠z.po→k∉l:=by
  intro k hb hp hm
  rcases hl k hm with h1|h1
  ·exact hp h1
  ·exact (hown k h1).1 hb
 have e7:z.be∉l:=nb _ (RLay.beB (by simp)) n6.2.2.2.2.2.2.2.2.1
 obtain ⟨hi1,hi2⟩:=Vg hy
 have hset:∀j y1,(L.set i y')[j]? =some y1→(j=i∧y1=y')∨(j≠i∧L[j]? =some y1):=by
  exact Tz133
 have hmem:∀k∈z.all (L.set i y'),k∈z.all L∨w.heap.size≤k:=by
  intro k hk
  unfold RLay.all at hk
  rw [List.mem_append,Jc] at hk
  rcases hk with hk|⟨y1,hy1,hk⟩
  ·exact .inl (RLay.inB hk)
  ·obtain ⟨j,hj⟩:=List.getElem?_of_mem hy1
   exact Tz115
 have hfo:∀j y1,L[j]? =some y1→j≠i→∀k∈y1.1.foot z.po,k∉l:=by
  intro j y1 hj hji k hk hm
  rcases hl k hm with h1|h1
  ·exact (h.own hj k hk).1 (RLay.beB (by simp [h1]))
  ·exact (hown k h1).2.1 j y1 hj hji hk
 refine ⟨⟨h.chg.trans' hc (fun k hk=>.inr (hw k hk)),hc.keep h.sys (nb _ (RLay.beB (by simp)) n6.1.2.2.2.1),h.cap,⟨h.mem.1.trans' hc (fun k hk=>.inr (hw k hk)),h.mem.2.1.keep hc (nb _ (RLay.beB (by simp)) n6.2.1.2.2.1) e7,h.mem.2.2.1.keep hc (nb _ (RLay.beB (by simp)) n6.2.2.1.2.1) (nb _ (RLay.beB (by simp)) n6.2.2.2.1.1),h.mem.2.2.2⟩,hp,by rw [List.length_set];exact h.cores,hc.keep h.ents (nb _ (RLay.beB (by simp)) (Ne.symm n6.2.2.2.2.1)),h.lines,?_,?_,rsub_new h hmem,by rw [sq_sameR hy (show Qbc y'=Qbc y by unfold Qbc;rw [hg9])];exact hc.keep h.agts (nb _ RLay.abB h.neA.2.2.2.2.1)⟩,hc.mono (fun k hk=>.inl (hla k hk)),hmem⟩
 ·intro y1 hy1
  exact Tz123
 ·unfold RLay.all
  rw [List.nodup_append]
  refine ⟨h.nodupB,nodup_feet ?_ ?_,?_⟩
  ·intro y1 hy1
   obtain ⟨j,hj⟩:=List.getElem?_of_mem hy1
   rcases hset j y1 hj with ⟨_,rfl⟩|⟨_,h2⟩
   ·exact hn
   ·exact h.foot1 (List.mem_of_getElem? h2)
  ·intro a b ya yb hab ha hb k hka hkb
   exact Tz62
  ·intro k hkb k' hk' e
   subst e
   obtain ⟨y1,hy1,hk1⟩:=Jc.1 hk'
   obtain ⟨j,hj⟩:=List.getElem?_of_mem hy1
   rcases hset j y1 hj with ⟨_,rfl⟩|⟨_,h2⟩
   ·rcases hf k hk1 with h3|h3
    ·exact (hown k h3).1 hkb
    ·have:=hold k (RLay.inB hkb)
     omega
   ·exact (h.own h2 k hk1).1 hkb
end
section
variable {W w w':World} {c:Cg} {z:RLay} {L:List (Po×Pt)} {en:List En} {es:List Ent} {xs:List Int} (h:Rsd W w c z L en es xs)
include h
theorem Rsd.okB {l:List Nat} (hc:Chg l w w') (hl:∀k∈l,k∈z.base∨w.heap.size≤k):∀y∈L,RPok W w' z.po c.se c.wa y:=by
 intro y hy
 obtain ⟨j,hj⟩:=List.getElem?_of_mem hy
 refine (h.ok y hy).keep hc ?_ ?_
 ·intro k hk
  rcases hl k hk with h1|h1
  ·exact h.new k (RLay.inB h1)
  ·exact Nat.le_trans h.chg.size h1
 ·intro k hk hm
  rcases hl k hm with h1|h1
  ·exact (h.own hj k hk).1 h1
  ·have:=h.old k (h.own hj k hk).2.2
   omega
theorem Rsd.memory {es':List Ent} {xs':List Int} {be':Nat} (hs:RSysW W w' z.q be' z.g z.b c.li c.vo c.qu es' xs') (hc:Chg [z.q,z.be,z.g,z.b] w w') (hb:be'=z.be∨be'=z.q∨w.heap.size≤be'):
 RTo W w c z L {z with be:=be'} L en es' xs' w':=by
 have n6:=h.ne6
 have hold:=h.old
 have hl:∀k∈[z.q,z.be,z.g,z.b],k∈z.base:=by
  intro k hk
  simp only [List.mem_cons,Vn,or_false] at hk
  exact RLay.beB (by rcases hk with h|h|h|h<;>simp [h])
 have hla:∀k∈[z.q,z.be,z.g,z.b],k∈z.all L:=fun k hk=>RLay.inB (hl k hk)
 have hnb:∀k∈({z with be:=be'}:RLay).base,k∈z.base∨w.heap.size≤k:=by
  intro k hk
  unfold RLay.base at hk
  simp only [List.mem_append,List.mem_cons,Vn,or_false,ZX] at hk
  rcases hk with (h1|h1|h1|h1|h1|h1|h1)|h1
  ·exact .inl (RLay.beB (by simp [h1]))
  ·exact .inl (RLay.beB (by simp [h1]))
  ·exact .inl (RLay.beB (by simp [h1]))
  ·exact .inl (RLay.beB (by simp [h1]))
  ·exact .inl (RLay.beB (by simp [h1]))
  ·exact .inl (RLay.beB (by simp [h1]))
  ·exact .inl (by rw [h1];exact RLay.abB)
  ·rcases hb with h2|h2|h2
   ·exact .inl (RLay.beB (by simp [h1.1,h2]))
   ·exact .inl (RLay.beB (by simp [h1.1,h2]))
   ·exact .inr (by rw [h1.1];exact h2)
 have hmem:∀k∈({z with be:=be'}:RLay).all L,k∈z.all L∨w.heap.size≤k:=by
  intro k hk
  unfold RLay.all at hk ⊢
  exact Tz127
 have e6:∀k,k∈[z.sy,z.po,z.en]→k∉[z.q,z.be,z.g,z.b]:=by
  exact Tz67
 refine ⟨⟨hs.1,hc.keep h.sys (e6 _ (by simp)),h.cap,hs,hc.keep h.ports (e6 _ (by simp)),h.cores,hc.keep h.ents (e6 _ (by simp)),h.lines,h.okB hc (fun k hk=>.inl (hl k hk)),?_,rsub_new h hmem,hc.keep h.agts (by have:=h.neA;simp;omega)⟩,hc.mono (fun k hk=>.inl (hla k hk)),hmem⟩
 have hn:=h.apart
 unfold RLay.all at hn ⊢
 rw [List.nodup_append] at hn ⊢
 refine ⟨?_,hn.2.1,?_⟩
 ·have hz:=hn.1
  have hlt:∀k,k∈z.base→k<w.heap.size:=fun k hk=>hold k (RLay.inB hk)
  unfold RLay.base at hz ⊢
  rw [List.nodup_append] at hz ⊢
  refine ⟨hz.1,?_,?_⟩
  ·unfold opt;split<;>simp
  ·intro a ha b hb' e
   subst e
   obtain ⟨h1,h2⟩:=ZX.1 hb'
   rcases hb with h3|h3|h3
   ·exact hz.2.2 a ha a (ZX.2 ⟨by rw [h1];exact h3,by rw [←h3];exact h2⟩) rfl
   ·exact h2 h3
   ·have:=hlt a (List.mem_append_left _ ha)
    have h4:a=be':=h1
    omega
 ·intro k hk k' hk' e
  subst e
  rcases hnb k hk with h1|h1
  ·exact hn.2.2 k h1 k hk' rfl
  ·have:=hold k (List.mem_append_right _ hk')
   omega
theorem Rsd.other {en':List En} (hc:Chg [z.en] w w') (h3:w'.heap[z.en]? =some (.cells (sq En.enc en' z.er) 117 (0,0))) (h4:en'.length=c.li):RTo W w c z L z L en' es xs w':=by
 have n6:=h.ne6
 have hl:∀x∈[z.en],x∈z.base:=by
  intro x hx
  rw [List.mem_singleton] at hx
  exact RLay.beB (by simp [hx])
 have hla:∀x∈[z.en],x∈z.all L:=fun x hx=>RLay.inB (hl x hx)
 have hw:=h.inW hla
 have e:∀x,x∈[z.sy,z.q,z.be,z.g,z.b,z.po,z.ab]→x∉[z.en]:=by
  intro x hx
  simp only [List.mem_cons,Vn,or_false] at hx ⊢
  rcases hx with rfl|rfl|rfl|rfl|rfl|rfl|rfl
  ·exact n6.1.2.2.2.2
  ·exact n6.2.1.2.2.2
  ·exact n6.2.2.2.2.2.2.2.2.2
  ·exact n6.2.2.1.2.2
  ·exact n6.2.2.2.1.2
  ·exact n6.2.2.2.2.1
  ·exact h.neA.2.2.2.2.2.1
 have hcw:=h.chg.trans' hc (fun x hx=>.inr (hw x hx))
 exact ⟨⟨hcw,hc.keep h.sys (e _ (by simp)),h.cap,⟨hcw,h.mem.2.keep hc (by intro x hx;exact e x (by simp only [List.mem_cons,Vn,or_false] at hx ⊢;rcases hx with h|h|h|h<;>simp [h]))⟩,hc.keep h.ports (e _ (by simp)),h.cores,h3,h4,h.okB hc (fun x hx=>.inl (hl x hx)),h.apart,h.new,hc.keep h.agts (e _ (by simp))⟩,hc.mono (fun x hx=>.inl (hla x hx)),fun x hx=>.inl hx⟩
end
section
variable {W w w':World} {c:Cg} {z:RLay} {L:List (Po×Pt)} {en:List En} {es:List Ent} {xs:List Int} (h:Rsd W w c z L en es xs)
include h
theorem Rsd.agent {i:Nat} {p:Po} {x:Pt} {s:Sta} (hy:L[i]? =some (p,x)) (ha:RAgW W w' p.g p.a p.b c.se c.wa s) (hc:Chg [p.a,p.b] w w'):RTo W w c z L z (L.set i (p,{x with s:=s})) en es xs w':=by
 have hk:=h.ok _ (List.mem_of_getElem? hy)
 have hown:=h.own hy
 have hl:∀k∈[p.a,p.b],k∈p.foot z.po:=by
  intro k hk
  simp only [List.mem_cons,Vn,or_false] at hk
  unfold Po.foot
  rcases hk with rfl|rfl<;>simp
 have hfn:=h.foot1 (List.mem_of_getElem? hy)
 have hpo:z.po∉[p.a,p.b]:=fun hm=>(hown _ (hl _ hm)).1 (RLay.beB (by simp))
 have hq:∀k,k∈opt z.po p.ub++(opt z.po p.nb++opt z.po p.db)→k∉[p.a,p.b]:=by
  exact Tz129
 refine h.port hy rfl hc (fun k hk=>.inr (hl k hk)) ?_ ⟨ha,hk.2.1.keepN hc ?_,hk.2.2.1.keepN hc ?_,hk.2.2.2.keepN hc ?_⟩ (fun k hk=>.inl hk) hfn
 ·rw [sq_sameR hy (by rfl)]
  exact hc.keep h.ports hpo
 ·intro hb;exact hq _ (by simp [ZX,hb])
 ·intro hb;exact hq _ (by simp [ZX,hb])
 ·intro hb;exact hq _ (by simp [ZX,hb])
theorem Rsd.queue_up {i:Nat} {p:Po} {x:Pt} {ys:List Ms} {v:Value} {e:Ending} (hy:L[i]? =some (p,x)) (hq:Qhb 121 (sq Yz L []) z.po (i*3+0) p.ub w ys v e w'):
 e=.returned v∧∃p',p'.g=p.g∧RTo W w c z L z (L.set i (p',{x with up:=ys})) en es xs w':=by
 obtain ⟨he,be',A',cap',h1,h2,hc,hb⟩:=hq
 have hk:=h.ok _ (List.mem_of_getElem? hy)
 have hown:=h.own hy
 have hfn:=h.foot1 (List.mem_of_getElem? hy)
 have hnew:∀k∈p.foot z.po,k<w.heap.size:=fun k hk'=>h.old k (hown k hk').2.2
 have hin:∀k,(k=p.g∨k=p.a∨k=p.b∨(k=p.ub∧p.ub≠z.po)∨(k=p.nb∧p.nb≠z.po)∨(k=p.db∧p.db≠z.po))→k∈p.foot z.po:=by
  intro k hk
  exact Tz43
 have hpo:∀k∈p.foot z.po,k≠z.po:=fun k hk e=>(hown k hk).1 (RLay.beB (by simp [e]))
 obtain ⟨⟨d1,d2,d3⟩,du,dn,dd,dun,dud,dnd⟩:=Yk.1 hfn
 have gabl:∀k,(k=p.g∨k=p.a∨k=p.b)→k∉[z.po,p.ub]:=by
  exact Tz124
 have hw:∀k∈[z.po,p.ub],W.heap.size≤k:=by
  intro k hk
  refine h.new k ?_
  simp only [List.mem_cons,Vn,or_false] at hk
  rcases hk with rfl|rfl
  ·exact RLay.inB (RLay.beB (by simp))
  ·by_cases hb:p.ub=z.po
   ·rw [hb];exact RLay.inB (RLay.beB (by simp))
   ·exact (hown _ (hin _ (by simp [hb]))).2.2
 have hbl:be'=p.ub∨(be'∉p.foot z.po∧be'≠z.po):=by
  exact Tz47
 have o_n:p.nb≠z.po→p.nb∉[z.po,p.ub]:=by
  intro hb
  simp only [List.mem_cons,Vn,or_false,not_or]
  refine ⟨hb,fun e=>?_⟩
  have h4:p.ub≠z.po:=fun e2=>hb (e.trans e2)
  exact dun h4 hb e.symm
 have o_d:p.db≠z.po→p.db∉[z.po,p.ub]:=by
  intro hb
  simp only [List.mem_cons,Vn,or_false,not_or]
  refine ⟨hb,fun e=>?_⟩
  have h4:p.ub≠z.po:=fun e2=>hb (e.trans e2)
  exact dud h4 hb e.symm
 refine ⟨he,{p with ub:=be',uA:=A',uc:=cap'},rfl,h.port hy rfl hc ?_ ?_ ⟨hk.1.keepL hc hw (gabl _ (by simp)) (gabl _ (by simp)) (gabl _ (by simp)),h2,hk.2.2.1.keepN hc o_n,hk.2.2.2.keepN hc o_d⟩ ?_ ?_⟩
 ·intro k hk
  exact Tz140
 ·rw [Qf6 (b:=({p with ub:=be',uA:=A',uc:=cap'},{x with up:=ys})) Qdw hy (by decide) (by rfl)] at h1
  exact h1
 ·intro k hk
  exact Tz82
 ·rcases hbl with h3|⟨h3,h4⟩
  ·subst h3;exact hfn
  ·have i1:∀k,(k=p.g∨k=p.a∨k=p.b∨(k=p.ub∧p.ub≠z.po)∨(k=p.nb∧p.nb≠z.po)∨(k=p.db∧p.db≠z.po))→k≠be':=fun k hk e=>h3 (e▸hin k hk)
   exact Tz18
theorem Rsd.queue_an {i:Nat} {p:Po} {x:Pt} {ys:List Ms} {v:Value} {e:Ending} (hy:L[i]? =some (p,x)) (hq:Qhb 121 (sq Yz L []) z.po (i*3+1) p.nb w ys v e w'):
 e=.returned v∧∃p',p'.g=p.g∧RTo W w c z L z (L.set i (p',{x with an:=ys})) en es xs w':=by
 obtain ⟨he,be',A',cap',h1,h2,hc,hb⟩:=hq
 have hk:=h.ok _ (List.mem_of_getElem? hy)
 have hown:=h.own hy
 have hfn:=h.foot1 (List.mem_of_getElem? hy)
 have hnew:∀k∈p.foot z.po,k<w.heap.size:=fun k hk'=>h.old k (hown k hk').2.2
 have hin:∀k,(k=p.g∨k=p.a∨k=p.b∨(k=p.ub∧p.ub≠z.po)∨(k=p.nb∧p.nb≠z.po)∨(k=p.db∧p.db≠z.po))→k∈p.foot z.po:=by
  intro k hk
  exact Tz43
 have hpo:∀k∈p.foot z.po,k≠z.po:=fun k hk e=>(hown k hk).1 (RLay.beB (by simp [e]))
 obtain ⟨⟨d1,d2,d3⟩,du,dn,dd,dun,dud,dnd⟩:=Yk.1 hfn
 have gabl:∀k,(k=p.g∨k=p.a∨k=p.b)→k∉[z.po,p.nb]:=by
  exact Tz125
 have hw:∀k∈[z.po,p.nb],W.heap.size≤k:=by
  intro k hk
  refine h.new k ?_
  simp only [List.mem_cons,Vn,or_false] at hk
  rcases hk with rfl|rfl
  ·exact RLay.inB (RLay.beB (by simp))
  ·by_cases hb:p.nb=z.po
   ·rw [hb];exact RLay.inB (RLay.beB (by simp))
   ·exact (hown _ (hin _ (by simp [hb]))).2.2
 have hbl:be'=p.nb∨(be'∉p.foot z.po∧be'≠z.po):=by
  exact Tz47
 have o_u:p.ub≠z.po→p.ub∉[z.po,p.nb]:=by
  intro hb
  simp only [List.mem_cons,Vn,or_false,not_or]
  refine ⟨hb,fun e=>?_⟩
  have h4:p.nb≠z.po:=fun e2=>hb (e.trans e2)
  exact dun hb h4 e
 have o_d:p.db≠z.po→p.db∉[z.po,p.nb]:=by
  intro hb
  simp only [List.mem_cons,Vn,or_false,not_or]
  refine ⟨hb,fun e=>?_⟩
  have h4:p.nb≠z.po:=fun e2=>hb (e.trans e2)
  exact dnd h4 hb e.symm
 refine ⟨he,{p with nb:=be',nA:=A',nc:=cap'},rfl,h.port hy rfl hc ?_ ?_ ⟨hk.1.keepL hc hw (gabl _ (by simp)) (gabl _ (by simp)) (gabl _ (by simp)),hk.2.1.keepN hc o_u,h2,hk.2.2.2.keepN hc o_d⟩ ?_ ?_⟩
 ·intro k hk
  exact Tz141
 ·rw [Qf6 (b:=({p with nb:=be',nA:=A',nc:=cap'},{x with an:=ys})) Qdw hy (by decide) (by rfl)] at h1
  exact h1
 ·intro k hk
  exact Tz81
 ·rcases hbl with h3|⟨h3,h4⟩
  ·subst h3;exact hfn
  ·have i1:∀k,(k=p.g∨k=p.a∨k=p.b∨(k=p.ub∧p.ub≠z.po)∨(k=p.nb∧p.nb≠z.po)∨(k=p.db∧p.db≠z.po))→k≠be':=fun k hk e=>h3 (e▸hin k hk)
   exact Tz18
theorem Rsd.queue_dn {i:Nat} {p:Po} {x:Pt} {ys:List Ms} {v:Value} {e:Ending} (hy:L[i]? =some (p,x)) (hq:Qhb 121 (sq Yz L []) z.po (i*3+2) p.db w ys v e w'):
 e=.returned v∧∃p',p'.g=p.g∧RTo W w c z L z (L.set i (p',{x with dn:=ys})) en es xs w':=by
 obtain ⟨he,be',A',cap',h1,h2,hc,hb⟩:=hq
 have hk:=h.ok _ (List.mem_of_getElem? hy)
 have hown:=h.own hy
 have hfn:=h.foot1 (List.mem_of_getElem? hy)
 have hnew:∀k∈p.foot z.po,k<w.heap.size:=fun k hk'=>h.old k (hown k hk').2.2
 have hin:∀k,(k=p.g∨k=p.a∨k=p.b∨(k=p.ub∧p.ub≠z.po)∨(k=p.nb∧p.nb≠z.po)∨(k=p.db∧p.db≠z.po))→k∈p.foot z.po:=by
  intro k hk
  exact Tz43
 have hpo:∀k∈p.foot z.po,k≠z.po:=fun k hk e=>(hown k hk).1 (RLay.beB (by simp [e]))
 obtain ⟨⟨d1,d2,d3⟩,du,dn,dd,dun,dud,dnd⟩:=Yk.1 hfn
 have gabl:∀k,(k=p.g∨k=p.a∨k=p.b)→k∉[z.po,p.db]:=by
  exact Tz126
 have hw:∀k∈[z.po,p.db],W.heap.size≤k:=by
  intro k hk
  refine h.new k ?_
  simp only [List.mem_cons,Vn,or_false] at hk
  rcases hk with rfl|rfl
  ·exact RLay.inB (RLay.beB (by simp))
  ·by_cases hb:p.db=z.po
   ·rw [hb];exact RLay.inB (RLay.beB (by simp))
   ·exact (hown _ (hin _ (by simp [hb]))).2.2
 have hbl:be'=p.db∨(be'∉p.foot z.po∧be'≠z.po):=by
  exact Tz47
 have o_u:p.ub≠z.po→p.ub∉[z.po,p.db]:=by
  intro hb
  simp only [List.mem_cons,Vn,or_false,not_or]
  refine ⟨hb,fun e=>?_⟩
  have h4:p.db≠z.po:=fun e2=>hb (e.trans e2)
  exact dud hb h4 e
 have o_n:p.nb≠z.po→p.nb∉[z.po,p.db]:=by
  intro hb
  simp only [List.mem_cons,Vn,or_false,not_or]
  refine ⟨hb,fun e=>?_⟩
  have h4:p.db≠z.po:=fun e2=>hb (e.trans e2)
  exact dnd hb h4 e
 refine ⟨he,{p with db:=be',dA:=A',dc:=cap'},rfl,h.port hy rfl hc ?_ ?_ ⟨hk.1.keepL hc hw (gabl _ (by simp)) (gabl _ (by simp)) (gabl _ (by simp)),hk.2.1.keepN hc o_u,hk.2.2.1.keepN hc o_n,h2⟩ ?_ ?_⟩
 ·intro k hk
  exact Tz142
 ·rw [Qf6 (b:=({p with db:=be',dA:=A',dc:=cap'},{x with dn:=ys})) Qdw hy (by decide) (by rfl)] at h1
  exact h1
 ·intro k hk
  exact Tz80
 ·rcases hbl with h3|⟨h3,h4⟩
  ·subst h3;exact hfn
  ·have i1:∀k,(k=p.g∨k=p.a∨k=p.b∨(k=p.ub∧p.ub≠z.po)∨(k=p.nb∧p.nb≠z.po)∨(k=p.db∧p.db≠z.po))→k≠be':=fun k hk e=>h3 (e▸hin k hk)
   exact Tz18
end
end
section
attribute [local go_sem ↓] QA QQ QH Q8 QS QC Za QN Zs Zh Qm Ql heap_alloc Qo heap_setCell Qb ZF Z4 Z5 Z3 Zc ZB Zk ZI Zv ZM ZK ZN ZL
attribute [local go_sem] Qc Qa Qd Qj Qf Qe Qh Qi Qw ZE QZ Zq QO QG Q6 Q0 Q5 Zi Q9 QM QB QI Zj Q7 Qz QP Qt Qk Qs Qr Qq Qp Qg Zb Ze lit8 QF ZG Zr Zt ZC Zd Zy ZH Zz Qv ZA Zl Zm QE QD QR ZO
attribute [local simp ↓] Qm Ql heap_alloc Qo heap_setCell Qb
attribute [local simp] Qc Qa Qd Qj Qf Qe Qh Qi Qw QB Qk Qs Qr Qq Qp Qg QF Qv QE QD QR QI
attribute [local go_sem ↓] XP XQ XO XN XS XR XM XZ
attribute [local go_sem] Xi XV Xh ZR ZT QL Xp ZZ X3 Zw QW QV QU QY QX QT QK QJ Zg Zf Xm ZW
attribute [local simp] QL Zf QW QV QU QY QX QT QK QJ Zg
attribute [local go_sem ↓] Xo ZV Xn ZU Z0
attribute [local go_sem] Xk Xj ZY Xl Qx Qy Z6
attribute [local simp] Z0 Qx Qy QI Zw
theorem Ji (z:RLay) (c:Cg):(z.enc c).toArray[0]? =some (.int .i64 c.co):=rfl
theorem Jg (z:RLay) (c:Cg):(z.enc c).toArray[1]? =some (.int .i64 c.li):=rfl
theorem Qac (z:RLay) (c:Cg):(z.enc c).toArray[7]? =some (.pointer (some ⟨z.q,0,none⟩)):=rfl
theorem Jh (z:RLay) (c:Cg):(z.enc c).toArray[8]? =some (.slice (some ⟨z.en,0,none⟩) c.li z.ec):=rfl
theorem Jj (z:RLay) (c:Cg):(z.enc c).toArray[9]? =some (.slice (some ⟨z.ab,0,none⟩) c.co z.ac):=rfl
theorem Jf (z:RLay) (c:Cg):(z.enc c).toArray[10]? =some (.slice (some ⟨z.po,0,none⟩) c.co c.co):=rfl
theorem Qc6 {L:List (Po×Pt)} {i:Nat} {y:Po×Pt} (hy:L[i]? =some y) (o:Nat) (ho:o<3):(sq Yz L [])[i*3+o]? =(Yz y)[o]?:=YC Qdw hy [] o ho
attribute [local go_sem ↓] Xg Qac Jh Jj Jf Ji Jg
attribute [local simp] Xg
section
variable {W:World} {c:Cg} {z:RLay} {L:List (Po×Pt)} {en:List En} {es:List Ent} {xs:List Int}
theorem Rsd.qne {w:World} (h:Rsd W w c z L en es xs) {i:Nat} {p:Po} {x:Pt} (hy:L[i]? =some (p,x)) {k:Nat} (hk:k∈z.base) (hp:k≠z.po):k≠p.ub∧k≠p.nb∧k≠p.db:=by
 have e:∀b,(b≠z.po→b∈p.foot z.po)→k≠b:=by
  intro b hb e
  subst e
  exact (h.own hy k (hb hp)).1 hk
 refine ⟨e _ fun hb=>?_,e _ fun hb=>?_,e _ fun hb=>?_⟩<;>simp [Po.foot,ZX,hb]
theorem Xr (k:Int) (v:Bool) (w:World) (h:Rsd W w c z L en es xs) (hv:inB k c.co=v):Calls Tryz.prog 107 #[.pointer (some ⟨z.sy,0,none⟩),.int .i64 k] w fun e w'=>e=.returned (.bool v)∧w=w':=by
 have rS:=h.sys
 clear h
 subst hv
 by_cases h0:k<0
 ·have t1:decide (0≤k)=false:=decide_eq_false (by omega)
  have hv:inB k c.co=false:=by unfold inB;simp;omega
  rw [hv]
  clear hv h0
  go_enter Tryz.func107,Tryz.ntmps107
  exact Tz44
 ·have t1:decide (0≤k)=true:=decide_eq_true (by omega)
  by_cases h2:k<c.co
  ·have t2:decide (k<(c.co:Int))=true:=decide_eq_true h2
   have hv:inB k c.co=true:=by unfold inB;simp;omega
   rw [hv]
   clear hv h0 h2
   go_enter Tryz.func107,Tryz.ntmps107
   exact Tz44
  ·have t2:decide (k<(c.co:Int))=false:=decide_eq_false h2
   have hv:inB k c.co=false:=by unfold inB;simp;omega
   rw [hv]
   clear hv h0 h2
   go_enter Tryz.func107,Tryz.ntmps107
   exact Tz44
theorem Xu (k:Int) (v:Bool) (w:World) (h:Rsd W w c z L en es xs) (hv:inB k c.li=v):Calls Tryz.prog 64 #[.pointer (some ⟨z.sy,0,none⟩),.int .i64 k] w fun e w'=>e=.returned (.bool v)∧w=w':=by
 have rS:=h.sys
 clear h
 subst hv
 by_cases h0:k<0
 ·have t1:decide (0≤k)=false:=decide_eq_false (by omega)
  have hv:inB k c.li=false:=by unfold inB;simp;omega
  rw [hv]
  clear hv h0
  go_enter Tryz.func64,Tryz.ntmps64
  exact Tz44
 ·have t1:decide (0≤k)=true:=decide_eq_true (by omega)
  by_cases h2:k<c.li
  ·have t2:decide (k<(c.li:Int))=true:=decide_eq_true h2
   have hv:inB k c.li=true:=by unfold inB;simp;omega
   rw [hv]
   clear hv h0 h2
   go_enter Tryz.func64,Tryz.ntmps64
   exact Tz44
  ·have t2:decide (k<(c.li:Int))=false:=decide_eq_false h2
   have hv:inB k c.li=false:=by unfold inB;simp;omega
   rw [hv]
   clear hv h0 h2
   go_enter Tryz.func64,Tryz.ntmps64
   exact Tz44
theorem rup_ok (i:Nat) (p:Po) (x:Pt) (B:Option Addr) (n nc:Nat) (ms:List Ms) (w:World) (h:Rsd W w c z L en es xs) (hy:L[i]? =some (p,x)) (hS:Sl w 12 B n (cat Ms.enc ms)) (hn:ms.length=n) (hl:x.up.length+n≤1000):
 Calls Tryz.prog 109 #[.pointer (some ⟨z.sy,0,none⟩),.int .i64 i,.slice B n nc] w fun e w'=>e=.returned (.tuple #[])∧∃p',p'.g=p.g∧RTo W w c z L z (L.set i (p',{x with up:=x.up++ms})) en es xs w':=by
 have rS:=h.sys
 have rQ:=h.ports
 have hk:=h.ok _ (List.mem_of_getElem? hy)
 have hi:i<c.co:=by rw [←h.cores];exact (Vg hy).1
 have g0:(0:Int)≤(i:Int):=by omega
 have g1:(i:Int)<(c.co:Int):=by omega
 have hcell:(sq Yz L [])[i*3]? =some (.slice p.uA x.up.length p.uc):=Qc6 hy 0 (by decide)
 have ca:=(Chg.refl [] w).drew
 have oq:=old rQ
 have nsy:=(h.qne hy (k:=z.sy) (RLay.beB (by simp)) h.ne6.1.2.2.2.1).1
 have hv1:Vof 12 38 Ms.enc w z.po p.ub p.uA p.uc x.up:=hk.2.1
 obtain ⟨be',cap',A',w3,happ,hv2,hbe,hc2,hqq⟩:=(hv1.keep ca (by simp)).app (ty:=61) Qbm (oq.chg ca) (hS.chg ca (by simp)) (c:=nc) hn (by omega) Cz29
 have HH:=Vh h
 have HY:=Vh hy
 have HV2:=Vh hv2
 have HB:=Vh hbe
 have HC2:=Vh hc2
 have hq2:w3.heap[z.po]? =some (.cells (sq Yz L []) 121 (0,0)):=by rw [hqq];exact ca.keep rQ (by simp)
 have HQ2:=Vh hq2
 have rS3:=hc2.keep (ca.keep rS (by simp)) (by simpa using nsy)
 have HN:=Vh hn
 have HCELL:=Vh hcell
 clear h hy hk hv1 nsy hS hv2 hbe hc2 hqq hi hl ca hn
 go_enter Tryz.func109,Tryz.ntmps109
 try dsimp only [List.append]
 go_wp2_with fail
 go_region
 all_goals
  go_wp2
  refine bodyPost_end (results_none rfl _ _ _) rfl ?_
  have C9:Chg [z.po,p.ub] w (w3.setCell ⟨z.po,i*3,none⟩ (.slice A' (x.up.length+n) cap')):=((((Chg.refl [] w).drew).mono (l':=[z.po,p.ub]) (by simp)).trans' HC2.out (by simp)).setCell _ _ _ (.inl (by simp))
  refine HH.out.queue_up HY.out ⟨rfl,be',A',cap',?_,?_,C9,HB.out⟩
  ·rw [show (x.up++ms).length=x.up.length+n by rw [List.length_append,HN.out]]
   simp [hq2]
  ·exact HV2.out.keepN ((Chg.refl [z.po] w3).setCell _ _ _ (.inl (by simp))) (by simp)
end
end
section
attribute [local go_sem ↓] QA QQ QH Q8 QS QC Za QN Zs Zh Qm Ql heap_alloc Qo heap_setCell Qb ZF Z4 Z5 Z3 Zc ZB Zk ZI Zv ZM ZK ZN ZL
attribute [local go_sem] Qc Qa Qd Qj Qf Qe Qh Qi Qw ZE QZ Zq QO QG Q6 Q0 Q5 Zi Q9 QM QB QI Zj Q7 Qz QP Qt Qk Qs Qr Qq Qp Qg Zb Ze lit8 QF ZG Zr Zt ZC Zd Zy ZH Zz Qv ZA Zl Zm QE QD QR ZO
attribute [local simp ↓] Qm Ql heap_alloc Qo heap_setCell Qb
attribute [local simp] Qc Qa Qd Qj Qf Qe Qh Qi Qw QB Qk Qs Qr Qq Qp Qg QF Qv QE QD QR QI
attribute [local go_sem ↓] XP XQ XO XN XS XR XM XZ
attribute [local go_sem] Xi XV Xh ZR ZT QL Xp ZZ X3 Zw QW QV QU QY QX QT QK QJ Zg Zf Xm ZW
attribute [local simp] QL Zf QW QV QU QY QX QT QK QJ Zg
attribute [local go_sem ↓] Xo ZV Xn ZU Z0
attribute [local go_sem] Xk Xj ZY Xl Qx Qy Z6
attribute [local simp] Z0 Qx Qy QI Zw
attribute [local go_sem ↓] Xg Qac Jh Jj Jf Ji Jg
attribute [local simp] Xg
theorem sd_parts {w wr:World} {l:List Nat} {n b o k:Nat} {ys:List Sd} {y:Sd} (h:Sl w 13 (some ⟨b,o,none⟩) n (cat Sd.enc ys)) (hc:Chg l w wr) (hb:b∉l) (hk:k<n) (hy:ys[k]? =some y):
 ∃c t f,wr.heap[b]? =some (.cells c t f)∧c[o+k*13]? =some (.int .i64 y.to)∧JM (some (.cells c t f)) (o+k*13+1) 12=true∧Xq (some (.cells c t f)) (o+k*13+1) 12=msc y.m:=by
 obtain ⟨cs,t,f,hb,h1,hpa⟩:=(h.chg hc (by simpa using hb)).elem (by omega) hk (Je Sd.len hy)
 obtain ⟨r1,r2⟩:=hpa 1 12 (by omega)
 refine ⟨cs,t,f,hb,h1 0 (by omega),r1,?_⟩
 rw [r2]
 simp [Sd.enc,msc,List.take_of_length_le,Ms.len]
section
variable {W:World} {c:Cg} {z:RLay} {L:List (Po×Pt)} {en:List En} {es:List Ent} {xs:List Int}
set_option maxHeartbeats 4000000 in
theorem Qa9 (B:Option Addr) (n nc:Nat) (ds:List Sd) (w:World) (h:Rsd W w c z L en es xs) (hn:n=ds.length) (hS:Sl w 13 B n (cat Sd.enc ds)) (hA:0<n→∀a,B=some a→a.block∉z.all L∧a.block<w.heap.size)
 (hto:∀d∈ds,0≤d.to∧d.to<c.co∧mg d.m=true) (M:Nat) (hM:∀x∈ports L,x.dn.length≤M) (hMn:M+n≤1000):
 Calls Tryz.prog 115 #[.pointer (some ⟨z.sy,0,none⟩),.slice B n nc] w fun r w'=>r=.returned (.tuple #[])∧∃L',RTo W w c z L z L' en es xs w'∧ports L'=XY (ports L) ds:=by
 have gn:(n:Int)≤1000:=by omega
 have HH:=Vh h
 have HN:=Vh hn
 have HS:=Vh hS
 have HA:=Vh hA
 have HO:=Vh hto
 have HX:=Vh hM
 have HY:=Vh hMn
 have M1:=Vh (h.stay (Chg.refl [] w))
 clear h hn hS hA hto hM hMn
 go_enter Tryz.func115,Tryz.ntmps115
 try dsimp only [List.append]
 go_wp2_with fail
 go_loopw [4] (fun ix wr=>∃(j:Nat) (L':List (Po×Pt)),j≤n∧ix=.int .i64 j∧RTo W w c z L z L' en es xs wr∧ports L'=XY (ports L) (ds.take j)) (fun ix _=>n-(intOf ix).toNat)
 case atStart=>exact ⟨0,L,by omega,rfl,M1.out,by simp;rfl⟩
 case round=>
  clear M1
  obtain ⟨j,L',hj,rfl,hm,hp⟩:=hrel
  have MM:=Vh hm
  have HP:=Vh hp
  clear hm hp
  by_cases hlt:j<n
  ·have tj:decide (j<n)=true:=decide_eq_true hlt
   have g2:(j:Int)<(n:Int):=by omega
   have g3:(0:Int)≤(j:Int):=by omega
   obtain ⟨b2,o2,rfl⟩:=HS.out.addr (by omega)
   have hjd:j<ds.length:=by rw [←HN.out];exact hlt
   obtain ⟨d,hy⟩:∃d,ds[j]? =some d:=⟨ds[j]'hjd,List.getElem?_eq_getElem _⟩
   obtain ⟨hAa,hAb⟩:=HA.out (by omega) _ rfl
   obtain ⟨cs,ts,fs,hb2,hc0,i2,p2⟩:=sd_parts HS.out MM.out.2.1 hAa hlt hy
   have NB2:=Vh (show b2∉z.all L' from fun hm=>by
    rcases MM.out.2.2 _ hm with h1|h1
    ·exact hAa h1
    ·have:b2<w.heap.size:=hAb
     omega)
   have ht:ds.take (j+1)=ds.take j++[d]:=by
    rw [List.take_succ_eq_append_getElem hjd,show ds[j]'hjd=d from (Vg hy).2]
   have hmd:=HO.out d (List.mem_of_getElem? hy)
   have HD:=Vh ht
   clear hy ht hAa hAb
   obtain ⟨tk,m⟩:=d
   obtain ⟨k,rfl⟩:∃k:Nat,tk=k:=⟨tk.toNat,by have h0:0≤tk:=hmd.1;omega⟩
   have hk:k<L'.length:=by rw [MM.out.1.cores];have:=hmd.2.1;exact Int.ofNat_lt.1 this
   obtain ⟨⟨p,x⟩,hLk⟩:∃y,L'[k]? =some y:=⟨L'[k]'hk,List.getElem?_eq_getElem _⟩
   have hdn:x.dn.length+1≤1000:=by
    exact Tz145
   have g4:(k:Int)<(c.co:Int):=hmd.2.1
   have g5:(0:Int)≤(k:Int):=by omega
   have rS:=MM.out.1.sys
   have rQ:=MM.out.1.ports
   have oS:=old rS
   have oQ:=old rQ
   have ob2:=old hb2
   have hcell:(sq Yz L' [])[k*3+2]? =some (.slice p.dA x.dn.length p.dc):=Qc6 hLk 2 (by decide)
   have hkk:=MM.out.1.ok _ (List.mem_of_getElem? hLk)
   have nsy:=(MM.out.1.qne hLk (k:=z.sy) (RLay.beB (by simp)) MM.out.1.ne6.1.2.2.2.1).2.2
   have hv1:Vof 12 38 Ms.enc wr z.po p.db p.dA p.dc x.dn:=hkk.2.2.2
   have NDB:=Vh (show b2≠p.db∧b2≠z.po from ⟨fun e=>NB2.out (by
    by_cases hb:p.db=z.po
    ·rw [e,hb];exact RLay.inB (RLay.beB (by simp))
    ·rw [e];exact (MM.out.1.own hLk p.db (by simp [Po.foot,ZX,hb])).2.2),fun e=>NB2.out Cz12⟩)
   have ca:=((Chg.refl [] wr).alloc (.cells (msc m) 38)).drew
   obtain ⟨be',cap',A',w3,happ,hv2,hbe,hc2,hqq⟩:=(hv1.keep ca (by simp)).app (ty:=61) Qbm (oQ.chg ca) (Qd5 wr m) (c:=1) rfl (by omega) Cz29
   have hq2:w3.heap[z.po]? =some (.cells (sq Yz L' []) 121 (0,0)):=by rw [hqq];exact ca.keep rQ (by simp)
   have rS3:=hc2.keep (ca.keep rS (by simp)) (by simpa using nsy)
   have hb3:=hc2.keep (ca.keep hb2 (by simp)) (by simpa using NDB.out.1)
   have HLK:=Vh hLk
   have HV2:=Vh hv2
   have HB:=Vh hbe
   have HC2:=Vh hc2
   have HQ2:=Vh hq2
   have HCA:=Vh ca
   have HKC:=Vh (show inB (k:Int) c.co=true by unfold inB;simp;omega)
   clear hLk hdn hmd hk hjd hv1 hv2 hbe hc2 hqq nsy hkk ca
   go_wp2_with fail
   refine (Xr k true wr MM.out.1 HKC.out).mono ?_
   rintro e w' ⟨rfl,rfl⟩
   go_wp2_with fail
   go_region
   all_goals
    go_wp2_with fail
    have C9:Chg [z.po,p.db] wr (w3.setCell ⟨z.po,k*3+2,none⟩ (.slice A' (x.dn.length+1) cap')):=((HCA.out.mono (l':=[z.po,p.db]) (by simp)).trans' HC2.out (by simp)).setCell _ _ _ (.inl (by simp))
    have hbn:be'=p.db∨wr.heap.size≤be':=by
     have h1:=HB.out
     have h3:((wr.alloc (.cells (msc m) 38)).drew).heap.size=wr.heap.size+1:=by simp
     omega
    obtain ⟨_,p',_,hr⟩:=MM.out.1.queue_dn (v:=.bool true) (e:=.returned (.bool true)) HLK.out ⟨rfl,be',A',cap',by
     rw [show (x.dn++[m]).length=x.dn.length+1 by simp]
     simp [HQ2.out],HV2.out.keepN ((Chg.refl [z.po] w3).setCell _ _ _ (.inl (by simp))) (by simp),C9,hbn⟩
    have HR9:=Vh (MM.out.trans hr)
    clear hr C9
    go_roundw
    case rel=>
     refine ⟨j+1,_,by omega,by go_num,HR9.out,?_⟩
     rw [ZQ,HP.out,HD.out]
     rw [sendP_snoc]
     have h1:=Jq HLK.out
     rw [HP.out] at h1
     rw [Qf9 h1]
    case measure=>simp [intOf];omega
  ·obtain rfl:j=n:=by omega
   have tj:decide (j<j)=false:=by simp
   go_wp2_with fail
   refine bodyPost_end (results_none rfl _ _ _) rfl ?_
   refine ⟨rfl,L',MM.out,?_⟩
   have:=HP.out
   rw [HN.out,List.take_length] at this
   exact this
end
end
section
attribute [local go_sem ↓] QA QQ QH Q8 QS QC Za QN Zs Zh Qm Ql heap_alloc Qo heap_setCell Qb ZF Z4 Z5 Z3 Zc ZB Zk ZI Zv ZM ZK ZN ZL
attribute [local go_sem] Qc Qa Qd Qj Qf Qe Qh Qi Qw ZE QZ Zq QO QG Q6 Q0 Q5 Zi Q9 QM QB QI Zj Q7 Qz QP Qt Qk Qs Qr Qq Qp Qg Zb Ze lit8 QF ZG Zr Zt ZC Zd Zy ZH Zz Qv ZA Zl Zm QE QD QR ZO
attribute [local simp ↓] Qm Ql heap_alloc Qo heap_setCell Qb
attribute [local simp] Qc Qa Qd Qj Qf Qe Qh Qi Qw QB Qk Qs Qr Qq Qp Qg QF Qv QE QD QR QI
attribute [local go_sem ↓] XP XQ XO XN XS XR XM XZ
attribute [local go_sem] Xi XV Xh ZR ZT QL Xp ZZ X3 Zw QW QV QU QY QX QT QK QJ Zg Zf Xm ZW
attribute [local simp] QL Zf QW QV QU QY QX QT QK QJ Zg
attribute [local go_sem ↓] Xo ZV Xn ZU Z0
attribute [local go_sem] Xk Xj ZY Xl Qx Qy Z6
attribute [local simp] Z0 Qx Qy QI Zw
attribute [local go_sem ↓] Xg Qac Jh Jj Jf Ji Jg
attribute [local simp] Xg
theorem msZ_build (k li:Int):((msc msZ).setIfInBounds 0 (.int .i64 k)).setIfInBounds 1 (.int .i64 li)=msc (ms4 k li false false):=rfl
attribute [local go_sem ↓] msZ_build
section
variable {W:World} {c:Cg} {z:RLay} {L:List (Po×Pt)} {en:List En} {es:List Ent} {xs:List Int}
theorem rstore_ok (i:Nat) (li k v:Int) (p:Po) (x:Pt) (w:World) (h:Rsd W w c z L en es xs) (hy:L[i]? =some (p,x)) (hl:inB li c.li=true) (hu:x.s.2≤1000000000) (hq:x.up.length+1≤1000) (h1:((storeF c.se c.wa x.s li k v).2.2).length≤1):
 Calls Tryz.prog 53 #[.pointer (some ⟨z.sy,0,none⟩),.int .i64 i,.int .i64 li,.int .i64 k,.int .u64 v] w fun e w'=>e=.returned (.bool (storeF c.se c.wa x.s li k v).2.1)∧∃p',RTo W w c z L z (L.set i (p',{x with s:=(storeF c.se c.wa x.s li k v).1,up:=x.up++(storeF c.se c.wa x.s li k v).2.2})) en es xs w':=by
 have rS:=h.sys
 have rA:=h.agts
 have hi:i<c.co:=by rw [←h.cores];exact (Vg hy).1
 have g0:(0:Int)≤(i:Int):=by omega
 have g1:(i:Int)<(c.co:Int):=by omega
 have hg:(sq Qbc L z.ar)[i]? =some (.pointer (some ⟨p.g,0,none⟩)):=by
  have:=YC Jp hy z.ar 0 (by decide)
  exact Tz88
 have HKC:=Vh (show inB (i:Int) c.co=true by unfold inB;simp;omega)
 have HH:=Vh h
 have HY:=Vh hy
 have HG:=Vh hg
 have HA:=Vh (h.ok _ (List.mem_of_getElem? hy)).1
 have HL1:=Vh hl
 have HU:=Vh hu
 have HQ:=Vh hq
 have H1:=Vh h1
 clear h hy hl hu hq h1 hi
 go_enter Tryz.func53,Tryz.ntmps53
 try dsimp only [List.append]
 go_wp2_with fail
 refine (Xr i true _ HH.out HKC.out).mono ?_
 rintro e w' ⟨rfl,rfl⟩
 go_wp2_with fail
 refine (Xu li true _ HH.out HL1.out).mono ?_
 rintro e w' ⟨rfl,rfl⟩
 go_wp2_with fail
 have hg:=HG.out
 go_wp2_with fail
 refine (hstore_any li k v _ HA.out HU.out).mono ?_
 rintro e w3 ⟨A3,n3,rfl,t3,a3,c3⟩
 have M1:=Vh (HH.out.agent HY.out a3 c3)
 have T3:=Vh t3
 clear t3 a3 c3 rS rA
 have hy1:(L.set i (p,{x with s:=(storeF c.se c.wa x.s li k v).1}))[i]? =some (p,{x with s:=(storeF c.se c.wa x.s li k v).1}):=by
  rw [List.getElem?_set];simp [(Vg HY.out).1]
 have hup:=rup_ok i p _ A3 ((storeF c.se c.wa x.s li k v).2.2).length n3 ((storeF c.se c.wa x.s li k v).2.2) w3 M1.out.1 hy1 T3.out.1 rfl Cz25
 exact Tz69
theorem revict_ok (i:Nat) (li:Int) (p:Po) (x:Pt) (w:World) (h:Rsd W w c z L en es xs) (hy:L[i]? =some (p,x)) (hl:inB li c.li=true) (hu:x.s.2≤1000000000) (hq:x.up.length+1≤1000) (h1:((evictF c.se c.wa x.s li).2.1).length≤1):
 Calls Tryz.prog 60 #[.pointer (some ⟨z.sy,0,none⟩),.int .i64 i,.int .i64 li] w fun e w'=>e=.returned (.int .i64 (evictF c.se c.wa x.s li).2.2)∧∃p',RTo W w c z L z (L.set i (p',{x with s:=(evictF c.se c.wa x.s li).1,up:=x.up++(evictF c.se c.wa x.s li).2.1})) en es xs w':=by
 have rS:=h.sys
 have rA:=h.agts
 have hi:i<c.co:=by rw [←h.cores];exact (Vg hy).1
 have g0:(0:Int)≤(i:Int):=by omega
 have g1:(i:Int)<(c.co:Int):=by omega
 have hg:(sq Qbc L z.ar)[i]? =some (.pointer (some ⟨p.g,0,none⟩)):=by
  have:=YC Jp hy z.ar 0 (by decide)
  exact Tz88
 have HKC:=Vh (show inB (i:Int) c.co=true by unfold inB;simp;omega)
 have HH:=Vh h
 have HY:=Vh hy
 have HG:=Vh hg
 have HA:=Vh (h.ok _ (List.mem_of_getElem? hy)).1
 have HL1:=Vh hl
 have HU:=Vh hu
 have HQ:=Vh hq
 have H1:=Vh h1
 clear h hy hl hu hq h1 hi
 go_enter Tryz.func60,Tryz.ntmps60
 try dsimp only [List.append]
 go_wp2_with fail
 refine (Xr i true _ HH.out HKC.out).mono ?_
 rintro e w' ⟨rfl,rfl⟩
 go_wp2_with fail
 refine (Xu li true _ HH.out HL1.out).mono ?_
 rintro e w' ⟨rfl,rfl⟩
 go_wp2_with fail
 have hg:=HG.out
 go_wp2_with fail
 refine (hevict_any li _ HA.out HU.out).mono ?_
 rintro e w3 ⟨A3,n3,rfl,t3,a3,c3⟩
 have M1:=Vh (HH.out.agent HY.out a3 c3)
 have T3:=Vh t3
 clear t3 a3 c3 rS rA
 have hy1:(L.set i (p,{x with s:=(evictF c.se c.wa x.s li).1}))[i]? =some (p,{x with s:=(evictF c.se c.wa x.s li).1}):=by
  rw [List.getElem?_set];simp [(Vg HY.out).1]
 have hup:=rup_ok i p _ A3 ((evictF c.se c.wa x.s li).2.1).length n3 ((evictF c.se c.wa x.s li).2.1) w3 M1.out.1 hy1 T3.out.1 rfl Cz25
 exact Tz69
theorem rreach_own (i:Nat) (li:Int) (p:Po) (x:Pt) (w:World) (h:Rsd W w c z L en es xs) (hy:L[i]? =some (p,x)) (hl:inB li c.li=true) (ho:JN x.s.1 li=true):
 Calls Tryz.prog 54 #[.pointer (some ⟨z.sy,0,none⟩),.int .i64 i,.int .i64 li] w fun e w'=>e=.returned (.bool true)∧Chg [] w w':=by
 have rS:=h.sys
 have rA:=h.agts
 have hi:i<c.co:=by rw [←h.cores];exact (Vg hy).1
 have g0:(0:Int)≤(i:Int):=by omega
 have g1:(i:Int)<(c.co:Int):=by omega
 have hg:(sq Qbc L z.ar)[i]? =some (.pointer (some ⟨p.g,0,none⟩)):=by
  have:=YC Jp hy z.ar 0 (by decide)
  exact Tz88
 have HKC:=Vh (show inB (i:Int) c.co=true by unfold inB;simp;omega)
 have HH:=Vh h
 have HY:=Vh hy
 have HG:=Vh hg
 have HA:=Vh (h.ok _ (List.mem_of_getElem? hy)).1
 have HL1:=Vh hl
 have HO:=Vh ho
 clear h hy hl ho hi
 go_enter Tryz.func54,Tryz.ntmps54
 try dsimp only [List.append]
 go_wp2_with fail
 refine (Xr i true _ HH.out HKC.out).mono ?_
 rintro e w' ⟨rfl,rfl⟩
 go_wp2_with fail
 refine (Xu li true _ HH.out HL1.out).mono ?_
 rintro e w' ⟨rfl,rfl⟩
 go_wp2_with fail
 refine (Qat li true HO.out _ HA.out).mono ?_
 rintro e w3 ⟨rfl,c3⟩
 go_wp2_with fail
 go_ret
 exact ⟨rfl,c3⟩
theorem rreach_ok (i:Nat) (li:Int) (p:Po) (x:Pt) (w:World) (h:Rsd W w c z L en es xs) (hy:L[i]? =some (p,x)) (hl:inB li c.li=true) (ho:JN x.s.1 li=false) (hu:x.s.2≤1000000000) (hq:x.up.length+1≤1000) (h1:((reachF c.se c.wa x.s li).2).length≤1):
 Calls Tryz.prog 54 #[.pointer (some ⟨z.sy,0,none⟩),.int .i64 i,.int .i64 li] w fun e w'=>e=.returned (.bool false)∧∃p',RTo W w c z L z (L.set i (p',{x with s:=(reachF c.se c.wa x.s li).1,up:=x.up++(reachF c.se c.wa x.s li).2})) en es xs w':=by
 have rS:=h.sys
 have rA:=h.agts
 have hi:i<c.co:=by rw [←h.cores];exact (Vg hy).1
 have g0:(0:Int)≤(i:Int):=by omega
 have g1:(i:Int)<(c.co:Int):=by omega
 have hg:(sq Qbc L z.ar)[i]? =some (.pointer (some ⟨p.g,0,none⟩)):=by
  have:=YC Jp hy z.ar 0 (by decide)
  exact Tz88
 have HKC:=Vh (show inB (i:Int) c.co=true by unfold inB;simp;omega)
 have HH:=Vh h
 have HY:=Vh hy
 have HG:=Vh hg
 have HA:=Vh (h.ok _ (List.mem_of_getElem? hy)).1
 have HL1:=Vh hl
 have HO:=Vh ho
 have HU:=Vh hu
 have HQ:=Vh hq
 have H1:=Vh h1
 clear h hy hl ho hu hq h1 hi
 go_enter Tryz.func54,Tryz.ntmps54
 try dsimp only [List.append]
 go_wp2_with fail
 refine (Xr i true _ HH.out HKC.out).mono ?_
 rintro e w' ⟨rfl,rfl⟩
 go_wp2_with fail
 refine (Xu li true _ HH.out HL1.out).mono ?_
 rintro e w' ⟨rfl,rfl⟩
 go_wp2_with fail
 refine (Qat li false HO.out _ HA.out).mono ?_
 rintro e w2 ⟨rfl,c2⟩
 have M2:=Vh (HH.out.stay c2)
 have rS2:=c2.keep rS Vn
 have rA2:=c2.keep rA Vn
 have HA2:=Vh (M2.out.1.ok _ (List.mem_of_getElem? HY.out)).1
 clear c2 rS rA
 go_wp2_with fail
 refine (hreach_any li _ HA2.out HU.out).mono ?_
 rintro e w3 ⟨A3,n3,rfl,t3,a3,c3⟩
 have M1:=Vh (M2.out.trans (M2.out.1.agent HY.out a3 c3))
 have T3:=Vh t3
 clear t3 a3 c3 rS2 rA2
 have hy1:(L.set i (p,{x with s:=(reachF c.se c.wa x.s li).1}))[i]? =some (p,{x with s:=(reachF c.se c.wa x.s li).1}):=by
  rw [List.getElem?_set];simp [(Vg HY.out).1]
 have hup:=rup_ok i p _ A3 ((reachF c.se c.wa x.s li).2).length n3 ((reachF c.se c.wa x.s li).2) w3 M1.out.1 hy1 T3.out.1 rfl Cz25
 exact Tz69
theorem rflush_4 (i:Nat) (li:Int) (p:Po) (x:Pt) (w:World) (h:Rsd W w c z L en es xs) (hy:L[i]? =some (p,x)) (hl:inB li c.li=true) (hq:x.up.length<1000):
 Calls Tryz.prog 55 #[.pointer (some ⟨z.sy,0,none⟩),.int .i64 i,.int .i64 li,.int .i64 4] w fun e w'=>e=.returned (.int .i64 0)∧∃p',RTo W w c z L z (L.set i (p',{x with up:=x.up++[ms4 4 li false false]})) en es xs w':=by
 have rS:=h.sys
 have rA:=h.agts
 have hi:i<c.co:=by rw [←h.cores];exact (Vg hy).1
 have g0:(0:Int)≤(i:Int):=by omega
 have g1:(i:Int)<(c.co:Int):=by omega
 have hg:(sq Qbc L z.ar)[i]? =some (.pointer (some ⟨p.g,0,none⟩)):=by
  have:=YC Jp hy z.ar 0 (by decide)
  exact Tz88
 have HKC:=Vh (show inB (i:Int) c.co=true by unfold inB;simp;omega)
 have HH:=Vh h
 have HY:=Vh hy
 have HG:=Vh hg
 have HA:=Vh (h.ok _ (List.mem_of_getElem? hy)).1
 have HL1:=Vh hl
 have rQ:=h.ports
 have hcell:(sq Yz L [])[i*3]? =some (.slice p.uA x.up.length p.uc):=Qc6 hy 0 (by decide)
 have HQ:=Vh hq
 have t2:decide ((1000:Int)≤(x.up.length:Int))=false:=decide_eq_false (by omega)
 have t3:decide (1000≤x.up.length)=false:=decide_eq_false (by omega)
 clear h hy hl hq hi
 go_enter Tryz.func55,Tryz.ntmps55
 try dsimp only [List.append]
 go_wp2_with fail
 refine (Xr i true _ HH.out HKC.out).mono ?_
 rintro e w' ⟨rfl,rfl⟩
 go_wp2_with fail
 refine (Xu li true _ HH.out HL1.out).mono ?_
 rintro e w' ⟨rfl,rfl⟩
 go_wp2_with fail
 have ca:=(Chg.refl [] w).alloc (.cells (msc (ms4 4 li false false)) 38)
 have hsl:Sl (w.alloc (.cells (msc (ms4 4 li false false)) 38)) 12 (some ⟨w.heap.size,0,none⟩) 1 (cat Ms.enc [ms4 4 li false false]):=Qd5 w (ms4 4 li false false)
 refine (rup_ok i p x (some ⟨w.heap.size,0,none⟩) 1 1 [ms4 4 li false false] _ (HH.out.keep ca) HY.out hsl rfl (by have:=HQ.out;omega)).mono ?_
 rintro e w4 ⟨rfl,p',_,m4⟩
 have M4:=Vh ((HH.out.stay ca).trans m4)
 clear m4 ca hsl rS rA rQ
 go_wp2_with fail
 go_ret
 exact ⟨rfl,p',M4.out⟩
theorem rflush_5 (i:Nat) (li:Int) (p:Po) (x:Pt) (w:World) (h:Rsd W w c z L en es xs) (hy:L[i]? =some (p,x)) (hl:inB li c.li=true) (hq:x.up.length<1000):
 Calls Tryz.prog 55 #[.pointer (some ⟨z.sy,0,none⟩),.int .i64 i,.int .i64 li,.int .i64 5] w fun e w'=>e=.returned (.int .i64 0)∧∃p',RTo W w c z L z (L.set i (p',{x with up:=x.up++[ms4 5 li false false]})) en es xs w':=by
 have rS:=h.sys
 have rA:=h.agts
 have hi:i<c.co:=by rw [←h.cores];exact (Vg hy).1
 have g0:(0:Int)≤(i:Int):=by omega
 have g1:(i:Int)<(c.co:Int):=by omega
 have hg:(sq Qbc L z.ar)[i]? =some (.pointer (some ⟨p.g,0,none⟩)):=by
  have:=YC Jp hy z.ar 0 (by decide)
  exact Tz88
 have HKC:=Vh (show inB (i:Int) c.co=true by unfold inB;simp;omega)
 have HH:=Vh h
 have HY:=Vh hy
 have HG:=Vh hg
 have HA:=Vh (h.ok _ (List.mem_of_getElem? hy)).1
 have HL1:=Vh hl
 have rQ:=h.ports
 have hcell:(sq Yz L [])[i*3]? =some (.slice p.uA x.up.length p.uc):=Qc6 hy 0 (by decide)
 have HQ:=Vh hq
 have t2:decide ((1000:Int)≤(x.up.length:Int))=false:=decide_eq_false (by omega)
 have t3:decide (1000≤x.up.length)=false:=decide_eq_false (by omega)
 clear h hy hl hq hi
 go_enter Tryz.func55,Tryz.ntmps55
 try dsimp only [List.append]
 go_wp2_with fail
 refine (Xr i true _ HH.out HKC.out).mono ?_
 rintro e w' ⟨rfl,rfl⟩
 go_wp2_with fail
 refine (Xu li true _ HH.out HL1.out).mono ?_
 rintro e w' ⟨rfl,rfl⟩
 go_wp2_with fail
 have ca:=(Chg.refl [] w).alloc (.cells (msc (ms4 5 li false false)) 38)
 have hsl:Sl (w.alloc (.cells (msc (ms4 5 li false false)) 38)) 12 (some ⟨w.heap.size,0,none⟩) 1 (cat Ms.enc [ms4 5 li false false]):=Qd5 w (ms4 5 li false false)
 refine (rup_ok i p x (some ⟨w.heap.size,0,none⟩) 1 1 [ms4 5 li false false] _ (HH.out.keep ca) HY.out hsl rfl (by have:=HQ.out;omega)).mono ?_
 rintro e w4 ⟨rfl,p',_,m4⟩
 have M4:=Vh ((HH.out.stay ca).trans m4)
 clear m4 ca hsl rS rA rQ
 go_wp2_with fail
 go_ret
 exact ⟨rfl,p',M4.out⟩
end
end
section
attribute [local go_sem ↓] QA QQ QH Q8 QS QC Za QN Zs Zh Qm Ql heap_alloc Qo heap_setCell Qb ZF Z4 Z5 Z3 Zc ZB Zk ZI Zv ZM ZK ZN ZL
attribute [local go_sem] Qc Qa Qd Qj Qf Qe Qh Qi Qw ZE QZ Zq QO QG Q6 Q0 Q5 Zi Q9 QM QB QI Zj Q7 Qz QP Qt Qk Qs Qr Qq Qp Qg Zb Ze lit8 QF ZG Zr Zt ZC Zd Zy ZH Zz Qv ZA Zl Zm QE QD QR ZO
attribute [local simp ↓] Qm Ql heap_alloc Qo heap_setCell Qb
attribute [local simp] Qc Qa Qd Qj Qf Qe Qh Qi Qw QB Qk Qs Qr Qq Qp Qg QF Qv QE QD QR QI
attribute [local go_sem ↓] XP XQ XO XN XS XR XM XZ
attribute [local go_sem] Xi XV Xh ZR ZT QL Xp ZZ X3 Zw QW QV QU QY QX QT QK QJ Zg Zf Xm ZW
attribute [local simp] QL Zf QW QV QU QY QX QT QK QJ Zg
attribute [local go_sem ↓] Xo ZV Xn ZU Z0
attribute [local go_sem] Xk Xj ZY Xl Qx Qy Z6
attribute [local simp] Z0 Qx Qy QI Zw
attribute [local go_sem ↓] Xg Qac Jh Jj Jf Ji Jg
attribute [local simp] Xg
theorem Qdh {fn:Func} {p:Tmp} (h:fn.results=#[.cell p 110]) (tmps:Array Value) (w:World) (b:Nat) (u v:Value) (fr:Nat×Nat)
 (hp:tmps.getD p undef=.pointer (some ⟨b,0,none⟩)) (hb:w.heap[b]? =some (.cells #[u,v] 110 fr)):
 (results fn tmps).run Tryz.prog w=.ok (.agg #[u,v]) w:=by
 have hp':tmps[p]?.getD undef=.pointer (some ⟨b,0,none⟩):=by simpa using hp
 have:=run_loadVar_row (P:=Tryz.prog) w b 110 110 #[u,v] fr _ hb Tryz.underlying110 rfl (by kernel_rfl)
 exact Tz93
theorem RTo.wrap {W w w5 w6:World} {c:Cg} {z z':RLay} {L L':List (Po×Pt)} {en:List En} {es:List Ent} {xs:List Int} {l:List Nat} (h:RTo W w c z L z' L' en es xs w5) (hc:Chg l w5 w6) (hl:∀k∈l,k∉z'.all L'∧w.heap.size≤k) (hW:W.heap.size≤w.heap.size):RTo W w c z L z' L' en es xs w6:=
 ⟨h.1.keepL hc (fun k hk=>(hl k hk).1) (fun k hk=>Nat.le_trans hW (hl k hk).2),h.2.1.trans' hc (fun k hk=>.inr (hl k hk).2),h.2.2⟩
section
variable {W:World} {c:Cg} {z:RLay} {L:List (Po×Pt)} {en:List En} {es:List Ent} {xs:List Int}
theorem rstore_no (i:Int) (li k v:Int) (w:World) (h:Rsd W w c z L en es xs) (hk:inB i c.co=false):Calls Tryz.prog 53 #[.pointer (some ⟨z.sy,0,none⟩),.int .i64 i,.int .i64 li,.int .i64 k,.int .u64 v] w fun e w'=>e=.returned (.bool false)∧Chg [] w w':=by
 have HH:=Vh h
 have HK:=Vh hk
 clear h hk
 go_enter Tryz.func53,Tryz.ntmps53
 exact Tz91
theorem rstore_off (i:Int) (li k v:Int) (w:World) (h:Rsd W w c z L en es xs) (hk:inB i c.co=true) (hl:inB li c.li=false):Calls Tryz.prog 53 #[.pointer (some ⟨z.sy,0,none⟩),.int .i64 i,.int .i64 li,.int .i64 k,.int .u64 v] w fun e w'=>e=.returned (.bool false)∧Chg [] w w':=by
 have HH:=Vh h
 have HK:=Vh hk
 have HL:=Vh hl
 clear h hk hl
 go_enter Tryz.func53,Tryz.ntmps53
 exact Tz53
theorem rreach_no (i:Int) (li:Int) (w:World) (h:Rsd W w c z L en es xs) (hk:inB i c.co=false):Calls Tryz.prog 54 #[.pointer (some ⟨z.sy,0,none⟩),.int .i64 i,.int .i64 li] w fun e w'=>e=.returned (.bool false)∧Chg [] w w':=by
 have HH:=Vh h
 have HK:=Vh hk
 clear h hk
 go_enter Tryz.func54,Tryz.ntmps54
 exact Tz91
theorem rreach_off (i:Int) (li:Int) (w:World) (h:Rsd W w c z L en es xs) (hk:inB i c.co=true) (hl:inB li c.li=false):Calls Tryz.prog 54 #[.pointer (some ⟨z.sy,0,none⟩),.int .i64 i,.int .i64 li] w fun e w'=>e=.returned (.bool false)∧Chg [] w w':=by
 have HH:=Vh h
 have HK:=Vh hk
 have HL:=Vh hl
 clear h hk hl
 go_enter Tryz.func54,Tryz.ntmps54
 exact Tz53
theorem revict_no (i:Int) (li:Int) (w:World) (h:Rsd W w c z L en es xs) (hk:inB i c.co=false):Calls Tryz.prog 60 #[.pointer (some ⟨z.sy,0,none⟩),.int .i64 i,.int .i64 li] w fun e w'=>e=.returned (.int .i64 1)∧Chg [] w w':=by
 have HH:=Vh h
 have HK:=Vh hk
 clear h hk
 go_enter Tryz.func60,Tryz.ntmps60
 exact Tz91
theorem revict_off (i:Int) (li:Int) (w:World) (h:Rsd W w c z L en es xs) (hk:inB i c.co=true) (hl:inB li c.li=false):Calls Tryz.prog 60 #[.pointer (some ⟨z.sy,0,none⟩),.int .i64 i,.int .i64 li] w fun e w'=>e=.returned (.int .i64 1)∧Chg [] w w':=by
 have HH:=Vh h
 have HK:=Vh hk
 have HL:=Vh hl
 clear h hk hl
 go_enter Tryz.func60,Tryz.ntmps60
 exact Tz53
theorem rflush_no (i:Int) (li k:Int) (w:World) (h:Rsd W w c z L en es xs) (hk:inB i c.co=false):Calls Tryz.prog 55 #[.pointer (some ⟨z.sy,0,none⟩),.int .i64 i,.int .i64 li,.int .i64 k] w fun e w'=>e=.returned (.int .i64 1)∧Chg [] w w':=by
 have HH:=Vh h
 have HK:=Vh hk
 clear h hk
 go_enter Tryz.func55,Tryz.ntmps55
 exact Tz91
theorem rflush_off (i:Int) (li k:Int) (w:World) (h:Rsd W w c z L en es xs) (hk:inB i c.co=true) (hl:inB li c.li=false):Calls Tryz.prog 55 #[.pointer (some ⟨z.sy,0,none⟩),.int .i64 i,.int .i64 li,.int .i64 k] w fun e w'=>e=.returned (.int .i64 1)∧Chg [] w w':=by
 have HH:=Vh h
 have HK:=Vh hk
 have HL:=Vh hl
 clear h hk hl
 go_enter Tryz.func55,Tryz.ntmps55
 exact Tz53
theorem rload_no (i:Int) (li k:Int) (w:World) (h:Rsd W w c z L en es xs) (hk:inB i c.co=false):Calls Tryz.prog 52 #[.pointer (some ⟨z.sy,0,none⟩),.int .i64 i,.int .i64 li,.int .i64 k] w fun e w'=>e=.returned (.agg #[.int .u64 0,.bool false])∧Chg [] w w':=by
 have HH:=Vh h
 have HK:=Vh hk
 clear h hk
 have ca:=Vh ((Chg.refl [] w).alloc (.cells #[.int .u64 0,.bool false] 110))
 have r0:(w.alloc (.cells #[.int .u64 0,.bool false] 110)).heap[w.heap.size]? =some (.cells #[.int .u64 0,.bool false] 110 (0,0)):=by simp
 go_enter Tryz.func52,Tryz.ntmps52
 try dsimp only [List.append]
 go_wp2_with fail
 generalize hb8:w.heap.size=b8 at r0 ⊢
 have HB8:=Vh hb8
 clear hb8
 generalize w.alloc (.cells #[.int .u64 0,.bool false] 110)=w1 at r0 ca ⊢
 have o8:=old r0
 go_wp2_with fail
 refine (Xr i false _ (HH.out.keep ca.out) HK.out).mono ?_
 exact Tz76
theorem rload_off (i:Int) (li k:Int) (w:World) (h:Rsd W w c z L en es xs) (hk:inB i c.co=true) (hl:inB li c.li=false):Calls Tryz.prog 52 #[.pointer (some ⟨z.sy,0,none⟩),.int .i64 i,.int .i64 li,.int .i64 k] w fun e w'=>e=.returned (.agg #[.int .u64 0,.bool false])∧Chg [] w w':=by
 have HH:=Vh h
 have HK:=Vh hk
 have HL:=Vh hl
 clear h hk hl
 have ca:=Vh ((Chg.refl [] w).alloc (.cells #[.int .u64 0,.bool false] 110))
 have r0:(w.alloc (.cells #[.int .u64 0,.bool false] 110)).heap[w.heap.size]? =some (.cells #[.int .u64 0,.bool false] 110 (0,0)):=by simp
 go_enter Tryz.func52,Tryz.ntmps52
 try dsimp only [List.append]
 go_wp2_with fail
 generalize hb8:w.heap.size=b8 at r0 ⊢
 have HB8:=Vh hb8
 clear hb8
 generalize w.alloc (.cells #[.int .u64 0,.bool false] 110)=w1 at r0 ca ⊢
 have o8:=old r0
 go_wp2_with fail
 refine (Xr i true _ (HH.out.keep ca.out) HK.out).mono ?_
 rintro e w' ⟨rfl,rfl⟩
 go_wp2_with fail
 refine (Xu li false _ (HH.out.keep ca.out) HL.out).mono ?_
 exact Tz76
set_option maxHeartbeats 2000000 in
theorem rload_ok (i:Nat) (li k:Int) (p:Po) (x:Pt) (w:World) (h:Rsd W w c z L en es xs) (hy:L[i]? =some (p,x)) (hl:inB li c.li=true) (hu:x.s.2≤1000000000) (hq:x.up.length+1≤1000) (h1:((loadF c.se c.wa x.s li k).2.2.2).length≤1):
 Calls Tryz.prog 52 #[.pointer (some ⟨z.sy,0,none⟩),.int .i64 i,.int .i64 li,.int .i64 k] w fun e w'=>e=.returned (.agg #[.int .u64 (loadF c.se c.wa x.s li k).2.1,.bool (loadF c.se c.wa x.s li k).2.2.1])∧∃p',RTo W w c z L z (L.set i (p',{x with s:=(loadF c.se c.wa x.s li k).1,up:=x.up++(loadF c.se c.wa x.s li k).2.2.2})) en es xs w':=by
 have rS:=h.sys
 have rA:=h.agts
 have hi:i<c.co:=by rw [←h.cores];exact (Vg hy).1
 have g0:(0:Int)≤(i:Int):=by omega
 have g1:(i:Int)<(c.co:Int):=by omega
 have hg:(sq Qbc L z.ar)[i]? =some (.pointer (some ⟨p.g,0,none⟩)):=by
  have:=YC Jp hy z.ar 0 (by decide)
  exact Tz88
 have HKC:=Vh (show inB (i:Int) c.co=true by unfold inB;simp;omega)
 have HH:=Vh h
 have HY:=Vh hy
 have HG:=Vh hg
 have HA:=Vh (h.ok _ (List.mem_of_getElem? hy)).1
 have HL1:=Vh hl
 have HU:=Vh hu
 have HQ:=Vh hq
 have H1:=Vh h1
 have ca:=Vh ((Chg.refl [] w).alloc (.cells #[.int .u64 0,.bool false] 110))
 have r0:(w.alloc (.cells #[.int .u64 0,.bool false] 110)).heap[w.heap.size]? =some (.cells #[.int .u64 0,.bool false] 110 (0,0)):=by simp
 have NB:=Vh (show w.heap.size∉z.all L from fun hm=>by have:=HH.out.old _ hm;omega)
 have rSa:=ca.out.keep rS Vn
 have rAa:=ca.out.keep rA Vn
 have HHa:=Vh (HH.out.stay ca.out)
 have HAa:=Vh (HHa.out.1.ok _ (List.mem_of_getElem? HY.out)).1
 have SZ:=Vh (show w.heap.size<(w.alloc (.cells #[.int .u64 0,.bool false] 110)).heap.size by simp)
 clear h hy hl hu hq h1 hi rS rA
 go_enter Tryz.func52,Tryz.ntmps52
 try dsimp only [List.append]
 go_wp2_with fail
 generalize hb8:w.heap.size=b8 at r0 NB SZ ⊢
 have HB8:=Vh hb8
 clear hb8
 generalize w.alloc (.cells #[.int .u64 0,.bool false] 110)=w1 at r0 ca rSa rAa HHa HAa SZ ⊢
 have o8:=old r0
 go_wp2_with fail
 refine (Xr i true _ HHa.out.1 HKC.out).mono ?_
 rintro e w' ⟨rfl,rfl⟩
 go_wp2_with fail
 refine (Xu li true _ HHa.out.1 HL1.out).mono ?_
 rintro e w' ⟨rfl,rfl⟩
 go_wp2_with fail
 refine (hload_any li k _ HAa.out HU.out).mono ?_
 rintro e w3 ⟨A3,n3,rfl,t3,a3,c3⟩
 have M1:=Vh (HHa.out.trans (HHa.out.1.agent HY.out a3 c3))
 have A1:=Vh (HHa.out.1.agent HY.out a3 c3)
 have T3:=Vh t3
 have r3:=(HHa.out.1.agent HY.out a3 c3).2.1.keep r0 NB.out
 have o3:=old r3
 clear t3 a3 c3 rSa rAa r0 o8
 go_wp2_with fail
 have r9:(w3.alloc (.cells #[.int .u64 (loadF c.se c.wa x.s li k).2.1,.bool (loadF c.se c.wa x.s li k).2.2.1,.slice A3 (loadF c.se c.wa x.s li k).2.2.2.length n3] 181)).heap[w3.heap.size]? =some (.cells #[.int .u64 (loadF c.se c.wa x.s li k).2.1,.bool (loadF c.se c.wa x.s li k).2.2.1,.slice A3 (loadF c.se c.wa x.s li k).2.2.2.length n3] 181 (0,0)):=by simp
 have c9:=(Chg.refl [] w3).alloc (.cells #[.int .u64 (loadF c.se c.wa x.s li k).2.1,.bool (loadF c.se c.wa x.s li k).2.2.1,.slice A3 (loadF c.se c.wa x.s li k).2.2.2.length n3] 181)
 have M9:=Vh (M1.out.trans (M1.out.1.stay c9))
 have T9:=Vh (T3.out.keep c9 (by simp))
 have r39:=c9.keep r3 Vn
 have N9:=Vh (show w3.heap.size∉z.all (L.set i (p,{x with s:=(loadF c.se c.wa x.s li k).1})) from fun hm=>by have:=M1.out.1.old _ hm;omega)
 have N89:=Vh (show b8≠w3.heap.size from Nat.ne_of_lt o3.lt)
 clear c9 r3 o3
 generalize w3.heap.size=b9 at r9 N9 N89 ⊢
 generalize w3.alloc (.cells #[.int .u64 (loadF c.se c.wa x.s li k).2.1,.bool (loadF c.se c.wa x.s li k).2.2.1,.slice A3 (loadF c.se c.wa x.s li k).2.2.2.length n3] 181)=w4 at r9 M9 T9 r39 ⊢
 have hy1:(L.set i (p,{x with s:=(loadF c.se c.wa x.s li k).1}))[i]? =some (p,{x with s:=(loadF c.se c.wa x.s li k).1}):=by
  rw [List.getElem?_set];simp [(Vg HY.out).1]
 have hup:=rup_ok i p _ A3 ((loadF c.se c.wa x.s li k).2.2.2).length n3 ((loadF c.se c.wa x.s li k).2.2.2) w4 M9.out.1 hy1 T9.out.1 rfl Cz25
 have HUP:=Vh hup
 have NB1:=Vh (show b8∉z.all (L.set i (p,{x with s:=(loadF c.se c.wa x.s li k).1})) from fun hm=>by
  rcases A1.out.2.2 _ hm with h1|h1
  ·exact NB.out h1
  ·have:=SZ.out;omega)
 have SZ4:=Vh (show b8<w4.heap.size from (old r39).lt)
 clear hy1 hup
 go_wp2_with fail
 refine HUP.out.mono ?_
 rintro e w5 ⟨rfl,p',_,m5⟩
 have r59:=m5.2.1.keep r9 N9.out
 have r58:=m5.2.1.keep r39 NB1.out
 have M5:=Vh (M9.out.trans m5)
 rw [List.set_set] at M5
 have o58:=old r58
 have o59:=old r59
 have n89:=N89.out
 have NB5:=Vh (show b8∉z.all ((L.set i (p,{x with s:=(loadF c.se c.wa x.s li k).1})).set i (p',{x with s:=(loadF c.se c.wa x.s li k).1,up:=x.up++(loadF c.se c.wa x.s li k).2.2.2})) from fun hm=>by
  rcases m5.2.2 _ hm with h1|h1
  ·exact NB1.out h1
  ·have:=SZ4.out;omega)
 rw [List.set_set] at NB5
 clear m5 r9 r39
 go_wp2_with fail
 refine bodyPost_ret (Qdh (by rfl) _ _ b8 (.int .u64 (loadF c.se c.wa x.s li k).2.1) (.bool (loadF c.se c.wa x.s li k).2.2.1) (0,0) (by rfl) (by simp [r58];try rfl)) (by rfl) ?_
 exact ⟨rfl,p',M5.out.wrap (((Chg.refl [b8] w5).setCell _ _ _ (.inl (by simp))).setCell _ _ _ (.inl (by simp))) (by intro y hy;rw [List.mem_singleton] at hy;subst hy;exact ⟨NB5.out,by have:=HB8.out;omega⟩) HH.out.chg.size⟩
end
end
end Go.Proofs.YtadeoflkppiflaaGreatDoor
