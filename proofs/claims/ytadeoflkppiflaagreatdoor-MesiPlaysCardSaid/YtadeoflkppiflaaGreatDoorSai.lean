/- Texts of the walk, one behind the other: Que Quz Mes Met Meu Mev Mew Mex Mey. No condition. -/
import Derived.Test.YtadeoflkppiflaaGreatDoorSaa
import Derived.Test.YtadeoflkppiflaaGreatDoorSab
import Derived.Test.YtadeoflkppiflaaGreatDoorSac
import Derived.Test.YtadeoflkppiflaaGreatDoorSad
import Derived.Test.YtadeoflkppiflaaGreatDoorSae
import Derived.Test.YtadeoflkppiflaaGreatDoorSaf
import Derived.Test.YtadeoflkppiflaaGreatDoorSag
import Derived.BigQuiet
import Derived.Deep.Cut
import Derived.Deep.CutBlock
import Derived.Deep.CutRange
import Derived.Deep.DeepCutAuto
import Derived.Deep.QuietTactic
import Derived.Deep.RegionHeld3
import Derived.Deep.RegionWith
namespace Go.Proofs.YtadeoflkppiflaaGreatDoor
open Go.RowKit
set_option linter.unusedVariables false
set_option maxHeartbeats 1000000
set_option maxRecDepth 100000
attribute [local go_sem ↓] QA QQ QH Q8 QS QC Za QN Zs Zh Qm Ql heap_alloc Qo heap_setCell Qb ZF Z4 Z5 Z3 Zc ZB Zk ZI Zv ZM ZK ZN ZL
attribute [local go_sem] Qc Qa Qd Qj Qf Qe Qh Qi Qw ZE QZ Zq QO QG Q6 Q0 Q5 Zi Q9 QM QB QI Zj Q7 Qz QP Qt Qk Qs Qr Qq Qp Qg Zb Ze lit8 QF ZG Zr Zt ZC Zd Zy ZH Zz Qv ZA Zl Zm QE QD QR ZO
attribute [local simp ↓] Qm Ql heap_alloc Qo heap_setCell Qb
attribute [local simp] Qc Qa Qd Qj Qf Qe Qh Qi Qw QB Qk Qs Qr Qq Qp Qg QF Qv QE QD QR QI
section
attribute [local go_sem ↓] Xg
attribute [local simp] Xg
theorem mqlen_ok (T:TypeId) (C:Array Value) (q o:Nat) (A:Option Addr) (n cap:Nat) (w:World) (hq:w.heap[q]? =some (.cells C T (0,0))) (hC:C[o]? =some (.slice A n cap)):Calls Tryz.prog 201 #[.pointer (some ⟨q,o,none⟩)] w fun e w'=>e=.returned (.int .i64 n)∧w=w':=by
 go_enter Tryz.func201,Tryz.ntmps201
 exact Tz44
theorem qhead_ok (T:TypeId) (C:Array Value) (q o:Nat) (be:Nat) (A:Option Addr) (cap:Nat) (xs:List Ms) (w:World) (hq:w.heap[q]? =some (.cells C T (0,0))) (hC:C[o]? =some (.slice A xs.length cap)) (hl:xs.length≤1000) (hV:Vof 12 38 Ms.enc w q be A cap xs):
 Calls Tryz.prog 141 #[.pointer (some ⟨q,o,none⟩)] w fun e w'=>e=.returned (.tuple #[.agg (msc (Qfl xs)),.bool (Qb5 xs)])∧Chg [] w w':=by
 cases xs with
 |nil=>
  have HQ:=Vh hq
  clear hV
  go_enter Tryz.func141,Tryz.ntmps141
  try dsimp only [List.append]
  go_wp2_with fail
  refine (mqlen_ok T C q o A 0 cap _ (((Chg.refl [] w).alloc (.cells (msc msZ) 38)).keep HQ.out (by simp)) hC).mono ?_
  rintro e w' ⟨rfl,rfl⟩
  go_wp2_with fail
  refine bodyPost_ret (v:=.tuple #[.agg (msc msZ),.bool false]) ?_ (by rfl) ?_
  ·exact XA (by rfl) _ _ w.heap.size msZ (0,0) (by rfl) (by simp [*]) _ (by rfl)
  ·exact ⟨rfl,(Chg.refl _ _).alloc _⟩
 |cons x xs=>
  obtain ⟨hne,o',C',rfl,hb,hi,hp⟩:=hV.first Ms.len
  have hp':Xq (some (.cells C' 38 (0,0))) o' 12=msc x:=hp
  have oq:=old hq
  have ob:=old hb
  have l6:(xs.length:Int)+1≤1000:=by simp at hl;omega
  have g1:(0:Int)<(xs.length:Int)+1:=by omega
  have t1:(((xs.length:Int)+1)==0)=false:=by simp;omega
  have hC':C[o]? =some (.slice (some ⟨be,o',none⟩) (xs.length+1) cap):=hC
  have HQ:=Vh hq
  rw [Qbg]
  clear hV hp hl hC
  go_enter Tryz.func141,Tryz.ntmps141
  try dsimp only [List.append]
  go_wp2_with (go_at_call 201;refine (mqlen_ok T C q o _ (xs.length+1) cap _ (((Chg.refl [] w).alloc (.cells (msc msZ) 38)).keep HQ.out (by simp)) hC').mono ?_;rintro e w' ⟨rfl,rfl⟩;rw [show ((xs.length+1:Nat):Int)=(xs.length:Int)+1 by simp])
  refine bodyPost_ret (v:=.tuple #[.agg (msc x),.bool true]) ?_ (by rfl) ?_
  ·exact XA (by rfl) _ _ w.heap.size x (0,0) (by rfl) (by simp [*]) _ (by rfl)
  ·exact ⟨rfl,(Chg.refl _ _).alloc _⟩
def Qhb (T:TypeId) (C:Array Value) (q o be:Nat) (w:World) (ys:List Ms) (v:Value):Ending→World→Prop:=fun e w'=>
 e=.returned v∧∃be' A' cap',w'.heap[q]? =some (.cells (C.setIfInBounds o (.slice A' ys.length cap')) T (0,0))∧Vof 12 38 Ms.enc w' q be' A' cap' ys∧Chg [q,be] w w'∧(be'=be∨w.heap.size≤be')
theorem setSame {C:Array Value} {o:Nat} {v:Value} (h:C[o]? =some v):C.setIfInBounds o v=C:=by
 obtain ⟨h1,h2⟩:=Array.getElem?_eq_some_iff.1 h
 apply Array.ext_getElem?
 intro i
 rw [Array.getElem?_setIfInBounds]
 split
 ·rename_i e
  subst e
  rw [h]
 ·rfl
theorem qpop_ok (T:TypeId) (C:Array Value) (q o:Nat) (be:Nat) (A:Option Addr) (cap:Nat) (xs:List Ms) (w:World) (hq:w.heap[q]? =some (.cells C T (0,0))) (hC:C[o]? =some (.slice A xs.length cap)) (hl:xs.length≤1000) (hV:Vof 12 38 Ms.enc w q be A cap xs):
 Calls Tryz.prog 148 #[.pointer (some ⟨q,o,none⟩)] w (Qhb T C q o be w xs.tail (.tuple #[.agg (msc (Qfl xs)),.bool (Qb5 xs)])):=by
 have oq:=old hq
 have r0:(w.alloc (.cells (msc msZ) 38)).heap[w.heap.size]? =some (.cells (msc msZ) 38 (0,0)):=by simp
 have C0:=Vh ((Chg.refl [] w).alloc (.cells (msc msZ) 38))
 have hhd:=fun w1 (c:Chg [] w w1)=>qhead_ok T C q o be A cap xs w1 (c.keep hq (by simp)) hC hl (hV.keep c (by simp))
 have HH:=Vh hhd
 have HV:=Vh hV
 have HQ:=Vh hq
 have HL:=Vh hl
 have HQS:w.heap.size≠q:=by have:=oq.lt;omega
 have HQT:q≠w.heap.size:=fun e=>HQS e.symm
 clear hhd hV oq hl
 cases xs with
 |nil=>
  have HC:=Vh hC
  clear hC hq
  go_enter Tryz.func148,Tryz.ntmps148
  try dsimp only [List.append]
  go_wp2_with fail
  generalize w.alloc (.cells (msc msZ) 38)=w1 at r0 C0 ⊢
  refine (HH.out w1 C0.out).mono ?_
  rw [Qec,show Qb5 ([]:List Ms)=false from rfl]
  rintro e w2 ⟨rfl,c2⟩
  have r2:=c2.keep r0 (by simp)
  have o2:=old r2
  have C2:=Vh (C0.out.trans c2)
  clear r0 C0 c2
  go_wp2_with fail
  refine bodyPost_ret (v:=.tuple #[.agg (msc msZ),.bool false]) ?_ (by rfl) ?_
  ·exact XA (by rfl) _ _ w.heap.size msZ (0,0) (by rfl) (by simp [*]) _ (by rfl)
  ·have C9:=(C2.out.alloc (.cells (msc msZ) 38)).putRow w.heap.size 0 (msc msZ) (.inr (by simp))
   refine ⟨rfl,be,A,cap,?_,HV.out.keep C9 (by simp),C9.mono (by simp),.inl rfl⟩
   rw [show (([]:List Ms).tail.length)=([]:List Ms).length from rfl,setSame HC.out]
   exact C9.keep HQ.out (by simp)
 |cons x xs=>
  have hsl:=Qct (P:=Tryz.prog) Qbm A xs.length cap Cz26
  have HT:=Vh (HV.out.tail Ms.len)
  have hne:=(HV.out.first Ms.len).1
  have HN:=Vh hne
  have OB:=Vh (HV.out.old (old HQ.out))
  have hC':C[o]? =some (.slice A (xs.length+1) cap):=hC
  have OI:=Vh (Array.getElem?_eq_some_iff.1 hC).1
  have HC:=Vh hC'
  clear hne hC hC' hq
  go_enter Tryz.func148,Tryz.ntmps148
  try dsimp only [List.append]
  go_wp2_with fail
  generalize w.alloc (.cells (msc msZ) 38)=w1 at r0 C0 ⊢
  refine (HH.out w1 C0.out).mono ?_
  rw [Qbg,show Qb5 (x::xs)=true from rfl]
  rintro e w2 ⟨rfl,c2⟩
  have r2:=c2.keep r0 (by simp)
  have o2:=old r2
  have C2:=Vh (C0.out.trans c2)
  have q2:=C2.out.keep HQ.out (by simp)
  have oq2:=old q2
  have hC':=HC.out
  clear r0 C0 c2
  go_wp2_with fail
  refine bodyPost_ret (v:=.tuple #[.agg (msc x),.bool true]) ?_ (by rfl) ?_
  ·exact XA (by rfl) _ _ w.heap.size x (0,0) (by rfl) (by simp [*]) _ (by rfl)
  ·have C9:=(((Chg.refl [q] w2).alloc (.cells (msc x) 38)).setCell q o (.slice (Y2 12 A cap) xs.length (cap-1)) (.inl (by simp))).mono (l':=[q,w.heap.size]) (by simp)
   have C9:=C9.putRow w.heap.size 0 (msc x) (.inl (by simp))
   have hq9:(putRow ((w2.alloc (.cells (msc x) 38)).setCell ⟨q,o,none⟩ (.slice (Y2 12 A cap) xs.length (cap-1))) w.heap.size 0 (msc x)).heap[q]? =some (.cells (C.setIfInBounds o (.slice (Y2 12 A cap) xs.length (cap-1))) T (0,0)):=by simp [*]
   have hbw:be≠w.heap.size:=by have:=OB.out.lt;omega
   have hbs:=HN.out
   refine ⟨rfl,be,_,_,hq9,?_,(C2.out.mono (l':=[q,be]) (by simp)).trans' C9 (by simp),.inl rfl⟩
   exact (HT.out.keep C2.out (by simp)).keep C9 (by simp;exact ⟨HN.out,hbw⟩)
theorem qpush_ok (T:TypeId) (C:Array Value) (q o:Nat) (be:Nat) (A:Option Addr) (cap:Nat) (xs:List Ms) (m:Ms) (w:World) (hq:w.heap[q]? =some (.cells C T (0,0))) (hC:C[o]? =some (.slice A xs.length cap)) (hl:xs.length<1000) (hV:Vof 12 38 Ms.enc w q be A cap xs) (hT:Tab w) (hm:mg m=true):
 Calls Tryz.prog 135 #[.pointer (some ⟨q,o,none⟩),.agg (msc m)] w (Qhb T C q o be w (xs++[m]) (.int .i64 0)):=by
 have r0:(w.alloc (.cells (msc m) 38)).heap[w.heap.size]? =some (.cells (msc m) 38 (0,0)):=by simp
 have C0:=Vh ((Chg.refl [] w).alloc (.cells (msc m) 38))
 have hg1:∀w1,Chg [] w w1→Calls Tryz.prog 144 #[.agg (msc m)] w1 (fun e w'=>e=.returned (.bool true)∧Chg [] w1 w'):=fun w1 c=>hm▸Qgm m w1 (hT.keep c (by simp))
 have HG:=Vh hg1
 have HV:=Vh hV
 have HQ:=Vh hq
 have HF:=Vh hl
 have HC:=Vh hC
 have OI:=Vh (Array.getElem?_eq_some_iff.1 hC).1
 have t1:decide ((1000:Int)≤(xs.length:Int))=false:=by simp;omega
 clear hg1 hV hq hC hT hm hl
 go_enter Tryz.func135,Tryz.ntmps135
 try dsimp only [List.append]
 go_wp2_with fail
 generalize w.alloc (.cells (msc m) 38)=w1 at r0 C0 ⊢
 refine (HG.out w1 C0.out).mono ?_
 rintro e w2 ⟨rfl,c2⟩
 have r2:=c2.keep r0 (by simp)
 have o2:=old r2
 have C2:=Vh (C0.out.trans c2)
 have q2:=C2.out.keep HQ.out (by simp)
 have oq:=old q2
 have hC:=HC.out
 clear r0 C0 c2
 have ca:=((Chg.refl [] w2).alloc (.cells (msc m) 38)).drew
 obtain ⟨be',cap',A',w3,happ,hv2,hbe,hc2,hqq⟩:=((HV.out.keep C2.out (by simp)).keep ca (by simp)).app (ty:=61) Qbm (oq.chg ca) (Qd5 w2 m) (c:=1) rfl (by have:=HF.out;omega) (by have:=HF.out;unfold maxLen;omega)
 have hq2:w3.heap[q]? =some (.cells C T (0,0)):=by rw [hqq];exact ca.keep q2 (by simp)
 have HV2:=Vh hv2
 have HB:=Vh hbe
 have HC2:=Vh hc2
 have HCA:=Vh ca
 clear hv2 hbe hc2 hqq ca
 go_wp2_with fail
 go_region
 all_goals
  go_wp2
  go_ret
  have hsz:w.heap.size≤w2.heap.size:=C2.out.size
  have hne:be'≠q:=by
   obtain ⟨x,l,hl⟩:∃x l,xs++[m]=x::l:=by cases xs<;>simp
   exact ((hl▸HV2.out).first Ms.len).1
  have hbn:be'=be∨w.heap.size≤be':=by
   have h1:=HB.out
   have h3:((w2.alloc (.cells (msc m) 38)).drew).heap.size=w2.heap.size+1:=by simp
   omega
  have C9:Chg [q,be] w (w3.setCell ⟨q,o,none⟩ (.slice A' (xs.length+1) cap')):=(((C2.out.trans HCA.out).mono (l':=[q,be]) (by simp)).trans' HC2.out (by simp)).setCell _ _ _ (.inl (by simp))
  refine ⟨rfl,be',A',cap',?_,?_,C9,hbn⟩
  ·rw [show (xs++[m]).length=xs.length+1 by simp]
   simp [hq2]
  ·exact HV2.out.keep ((Chg.refl [q] w3).setCell _ _ _ (.inl (by simp))) (by simpa using hne)
end
section
attribute [local go_sem ↓] Xg
attribute [local simp] Xg
theorem ms_whole {w wr:World} {l:List Nat} {n b o k:Nat} {ys:List Ms} {y:Ms} (h:Sl w 12 (some ⟨b,o,none⟩) n (cat Ms.enc ys)) (hc:Chg l w wr) (hb:b∉l) (hk:k<n) (hy:ys[k]? =some y):
 ∃c t f,wr.heap[b]? =some (.cells c t f)∧JM (some (.cells c t f)) (o+k*12) 12=true∧Xq (some (.cells c t f)) (o+k*12) 12=msc y:=by
 obtain ⟨cs,t,f,hb,_,hpa⟩:=(h.chg hc (by simpa using hb)).elem (by omega) hk (Je Ms.len hy)
 obtain ⟨r1,r2⟩:=hpa 0 12 (by omega)
 rw [Nat.add_zero] at r1 r2
 refine ⟨cs,t,f,hb,r1,?_⟩
 rw [r2]
 simp [msc,Ms.len,List.take_of_length_le]
theorem zhead_ok (T:TypeId) (C:Array Value) (q o be:Nat) (A:Option Addr) (cap:Nat) (xs:List Ms) (w:World) (hq:w.heap[q]? =some (.cells C T (0,0))) (hC:C[o]? =some (.slice A xs.length cap)) (hB:C[o+1]? =some (.slice none 0 0)) (hl:xs.length≤1000) (hV:Vof 12 38 Ms.enc w q be A cap xs):
 Calls Tryz.prog 89 #[.pointer (some ⟨q,o,none⟩)] w fun e w'=>e=.returned (.tuple #[.agg (msc (Qfl xs)),.bool (Qb5 xs)])∧Chg [] w w':=by
 have C0:=Vh ((Chg.refl [] w).alloc (.cells (msc msZ) 38))
 have oq:=old hq
 have HH:=Vh (fun w1 (c:Chg [] w w1)=>qhead_ok T C q o be A cap xs w1 (c.keep hq (by simp)) hC hl (hV.keep c (by simp)))
 clear hV hl hC hB
 generalize Qfl xs=m at HH ⊢
 generalize Qb5 xs=sb at HH ⊢
 go_enter Tryz.func89,Tryz.ntmps89
 try dsimp only [List.append]
 go_wp2_with fail
 refine (HH.out _ C0.out).mono ?_
 rintro e w2 ⟨rfl,c2⟩
 have r2:w2.heap[w.heap.size]? =some (.cells (msc msZ) 38 (0,0)):=c2.keep (by simp) (by simp)
 have o2:=old r2
 have CC:=Vh (C0.out.trans c2)
 clear C0 c2
 go_wp2_with fail
 refine bodyPost_ret (v:=.tuple #[.agg (msc m),.bool sb]) ?_ (by rfl) ?_
 ·exact XA (by rfl) _ _ w.heap.size m (0,0) (by rfl) (by simp [*]) _ (by rfl)
 ·exact ⟨rfl,CC.out.putRow _ _ _ (.inr (Nat.le_refl _))⟩
theorem Qaa {C:Array Value} {o k:Nat} {v x:Value} (h:C[k]? =some x) (hk:o≠k):(C.setIfInBounds o v)[k]? =some x:=by
 rw [Array.getElem?_setIfInBounds_ne hk];exact h
theorem set_this {C:Array Value} {o:Nat} {v x:Value} (h:C[o]? =some x):(C.setIfInBounds o v)[o]? =some v:=by
 have:=(Array.getElem?_eq_some_iff.1 h).1
 simp [this]
theorem set_twice {C:Array Value} {o:Nat} {v x:Value}:(C.setIfInBounds o v).setIfInBounds o x=C.setIfInBounds o x:=by
 apply Array.ext_getElem?
 intro i
 simp only [Array.getElem?_setIfInBounds,Array.size_setIfInBounds]
 split
 ·rfl
 ·rfl
theorem zpop_ok (T:TypeId) (C:Array Value) (q o be:Nat) (A:Option Addr) (cap:Nat) (xs:List Ms) (w:World) (hq:w.heap[q]? =some (.cells C T (0,0))) (hC:C[o]? =some (.slice A xs.length cap)) (hB:C[o+1]? =some (.slice none 0 0)) (hl:xs.length≤1000) (hV:Vof 12 38 Ms.enc w q be A cap xs):
 Calls Tryz.prog 92 #[.pointer (some ⟨q,o,none⟩)] w (Qhb T C q o be w xs.tail (.tuple #[.agg (msc (Qfl xs)),.bool (Qb5 xs)])):=by
 have C0:=Vh ((Chg.refl [] w).alloc (.cells (msc msZ) 38))
 have oq:=old hq
 have OB:=Vh (hV.old oq)
 have HQS:w.heap.size≠q:=by have:=oq.lt;omega
 have HQB:w.heap.size≠be:=by have:=OB.out.lt;omega
 have HH:=Vh (fun w1 (c:Chg [] w w1)=>qpop_ok T C q o be A cap xs w1 (c.keep hq (by simp)) hC hl (hV.keep c (by simp)))
 have HB:=Vh hB
 clear hV hl hC hB
 generalize Qfl xs=m at HH ⊢
 generalize Qb5 xs=sb at HH ⊢
 go_enter Tryz.func92,Tryz.ntmps92
 try dsimp only [List.append]
 go_wp2_with fail
 refine (HH.out _ C0.out).mono ?_
 rintro e w2 ⟨rfl,be',A',cap',hq2,hV2,c2,hb2⟩
 have r2:w2.heap[w.heap.size]? =some (.cells (msc msZ) 38 (0,0)):=c2.keep (by simp) (by simp [HQS,HQB])
 have o2:=old r2
 have oq2:=old hq2
 have hB2:(C.setIfInBounds o (.slice A' xs.tail.length cap'))[o+1]? =some (.slice none 0 0):=Qaa HB.out (by omega)
 have HQ2:=Vh hq2
 generalize hE:C.setIfInBounds o (.slice A' xs.tail.length cap')=C' at hq2 HQ2 hB2
 have HE:=Vh hE
 clear hE
 have HV2:=Vh hV2
 have CC:=Vh ((C0.out.mono (l':=[q,be]) (by simp)).trans c2)
 have HSZ:=Vh c2.size
 clear C0 c2 hq hV2
 go_wp2_with fail
 refine bodyPost_ret (v:=.tuple #[.agg (msc m),.bool sb]) ?_ (by rfl) ?_
 ·exact XA (by rfl) _ _ w.heap.size m (0,0) (by rfl) (by simp [*]) _ (by rfl)
 ·have c9:Chg [w.heap.size] w2 _:=((Chg.refl [w.heap.size] w2).alloc (.cells (msc m) 38)).putRow w.heap.size 0 (msc m) (.inl (by simp))
  have h4:=OB.out.lt
  have h5:be'≠w.heap.size:=by
   rcases hb2 with h|h
   ·omega
   ·simp at h;omega
  refine ⟨rfl,be',A',cap',?_,HV2.out.keep c9 (by simpa using h5),(CC.out.alloc _).putRow _ _ _ (.inr (Nat.le_refl _)),?_⟩
  ·rw [HE.out]
   exact c9.keep HQ2.out (by simpa using Ne.symm HQS)
  ·rcases hb2 with h|h
   ·exact .inl h
   ·simp at h;exact .inr (by omega)
theorem zask_ok (T:TypeId) (C:Array Value) (q o be:Nat) (A:Option Addr) (cap:Nat) (xs:List Ms) (m:Ms) (w:World) (hq:w.heap[q]? =some (.cells C T (0,0))) (hC:C[o]? =some (.slice A xs.length cap)) (hB:C[o+1]? =some (.slice none 0 0)) (hl:xs.length<1000) (hV:Vof 12 38 Ms.enc w q be A cap xs) (hT:Tab w) (hm:mg m=true):
 Calls Tryz.prog 83 #[.pointer (some ⟨q,o,none⟩),.agg (msc m)] w (Qhb T C q o be w (xs++[m]) (.int .i64 0)):=by
 have C0:=Vh ((Chg.refl [] w).alloc (.cells (msc m) 38))
 have r0:(w.alloc (.cells (msc m) 38)).heap[w.heap.size]? =some (.cells (msc m) 38 (0,0)):=by simp
 have HH:=Vh (fun w1 (c:Chg [] w w1)=>qpush_ok T C q o be A cap xs m w1 (c.keep hq (by simp)) hC hl (hV.keep c (by simp)) (hT.keep c (by simp)) hm)
 have oq:=old hq
 have OB:=hV.old oq
 have NX:=Vh (show w.heap.size∉[q,be] by have h1:=oq.lt;have h2:=OB.lt;simp;omega)
 clear hV hl hC hB hT hm hq oq OB
 go_enter Tryz.func83,Tryz.ntmps83
 try dsimp only [List.append]
 go_wp2_with fail
 generalize w.alloc (.cells (msc m) 38)=w1 at r0 C0 ⊢
 go_region_held3 (fun w'=>w'.heap[w.heap.size]? =some (.cells (msc m) 38 (0,0))) (first |exact c2.keep r0 NX.out|exact r0)
  (first |(go_at_call 135;refine (HH.out _ C0.out.drew).mono ?_;rintro e w' ⟨rfl,be',A',cap',h1,h2,c2,h3⟩))
 go_wp2_with fail
 go_ret
 refine ⟨rfl,be',A',cap',h1,h2,(C0.out.drew.mono (l':=[q,be]) (by simp)).trans c2,?_⟩
 have:=C0.out.size
 rcases h3 with h|h
 ·exact .inl h
 ·exact .inr (Nat.le_trans this h)
theorem zsend_ok (T:TypeId) (C:Array Value) (q o be:Nat) (A:Option Addr) (cap:Nat) (xs:List Ms) (B:Option Addr) (n nc:Nat) (ms:List Ms) (w:World) (hq:w.heap[q]? =some (.cells C T (0,0))) (hC:C[o]? =some (.slice A xs.length cap)) (hB:C[o+1]? =some (.slice none 0 0)) (hl:xs.length+n≤1000) (hV:Vof 12 38 Ms.enc w q be A cap xs) (hT:Tab w) (h0:1∉[q,be]) (hn:n=ms.length) (hS:Sl w 12 B n (cat Ms.enc ms)) (hA:∀a,B=some a→a.block∉[q,be]) (hm:∀m∈ms,mg m=true):
 Calls Tryz.prog 82 #[.pointer (some ⟨q,o,none⟩),.slice B n nc] w (Qhb T C q o be w (xs++ms) (.tuple #[])):=by
 have oq:=old hq
 have OB:=Vh (hV.old oq)
 have OQ:=Vh oq
 have HL:=Vh hl
 have HT:=Vh hT
 have HS:=Vh hS
 have HA:=Vh hA
 have HM:=Vh hm
 have HN:=Vh hn
 have HB:=Vh hB
 have HC:=Vh hC
 have HQ:=Vh hq
 have HV:=Vh hV
 have N0:=Vh h0
 have gn:(n:Int)≤1000:=by omega
 clear hl hT hS hA hm hn hB hC hq hV oq h0
 go_enter Tryz.func82,Tryz.ntmps82
 try dsimp only [List.append]
 go_wp2_with fail
 go_loopw [8] (fun i wr=>∃(j:Nat) (be':Nat) (A':Option Addr) (cap':Nat),j≤n∧i=.int .i64 j∧wr.heap[q]? =some (.cells (C.setIfInBounds o (.slice A' (xs.length+j) cap')) T (0,0))∧Vof 12 38 Ms.enc wr q be' A' cap' (xs++ms.take j)∧Chg [q,be] w wr∧(be'=be∨w.heap.size≤be')) (fun i _=>n-(intOf i).toNat)
 case atStart=>
  refine ⟨0,be,A,cap,by omega,rfl,?_,by simpa using HV.out,Chg.refl _ _,.inl rfl⟩
  rw [Nat.add_zero,setSame HC.out]
  exact HQ.out
 case round=>
  obtain ⟨j,be',A',cap',hj,rfl,hq,hV,hc,hb⟩:=hrel
  by_cases hlt:j<n
  ·have g1:(j:Int)<(n:Int):=by omega
   have g0:(0:Int)≤(j:Int):=by omega
   obtain ⟨b1,o1,rfl⟩:=HS.out.addr (by omega)
   obtain ⟨m,hy⟩:∃m,ms[j]? =some m:=⟨ms[j]'Cz17,List.getElem?_eq_getElem _⟩
   obtain ⟨c1,t1,f1,hb1,i1,p1⟩:=ms_whole HS.out hc (HA.out _ rfl) hlt hy
   have hx:xs++ms.take (j+1)=(xs++ms.take j)++[m]:=by
    rw [List.take_succ_eq_append_getElem (by rw [←HN.out];exact hlt:j<ms.length),List.append_assoc,show ms[j]'Cz17=m from (Vg hy).2]
   have hlx:(xs++ms.take j).length=xs.length+j:=by rw [List.length_append,List.length_take,←HN.out,Nat.min_eq_left hj]
   have hmm:=HM.out m (List.mem_of_getElem? hy)
   have ob':be'<wr.heap.size:=(hV.old (old hq)).lt
   have hpush:=fun w1 (c:Chg [] wr w1)=>qpush_ok T (C.setIfInBounds o (.slice A' (xs.length+j) cap')) q o be' A' cap' (xs++ms.take j) m w1 (c.keep hq (by simp)) (by rw [hlx];exact set_this HC.out) (by rw [hlx];have:=HL.out;omega) (hV.keep c (by simp)) ((HT.out.keep hc N0.out).keep c (by simp)) hmm
   have HP:=Vh hpush
   have HX:=Vh hx
   have HCW:=Vh hc
   have HBB:=Vh hb
   have HHX:=Vh hlx
   have NX:=Vh (show wr.heap.size∉[q,be'] by have h1:=(old hq).lt;simp;omega)
   clear hy hpush hx hmm hc hb hlx
   have r0:(wr.alloc (.cells (msc m) 38)).heap[wr.heap.size]? =some (.cells (msc m) 38 (0,0)):=by simp
   have C0:=Vh ((Chg.refl [] wr).alloc (.cells (msc m) 38))
   go_wp2_with fail
   generalize wr.alloc (.cells (msc m) 38)=w1 at r0 C0 ⊢
   go_region_held3 (fun w'=>w'.heap[wr.heap.size]? =some (.cells (msc m) 38 (0,0))) (first |exact c2.keep r0 NX.out|exact r0)
    (first |(go_at_call 135;refine (HP.out _ C0.out.drew).mono ?_;rintro e w' ⟨rfl,be2,A2,cap2,h1,h2,c2,h3⟩))
   have HR:=Vh h1
   clear r0 h1
   go_wp2_with fail
   go_roundw
   case rel=>
    have h1:=HR.out
    rw [set_twice,List.length_append,HHX.out] at h1
    have c3:=(C0.out.drew.mono (l':=[q,be']) (by simp)).trans c2
    have hq0:=OQ.out.lt
    have hsz:=HCW.out.size
    refine ⟨j+1,be2,A2,cap2,by omega,by go_num,h1,by rw [HX.out];exact h2,?_,?_⟩
    ·refine HCW.out.trans' c3 ?_
     intro y hy
     simp only [List.mem_cons,Vn,or_false] at hy
     rcases hy with rfl|rfl
     ·simp
     ·rcases HBB.out with h|h
      ·left;rw [h];simp
      ·exact .inr h
    ·have:=C0.out.size
     have h4:=HBB.out
     have h5:w1.drew.heap.size=w1.heap.size:=rfl
     omega
   case measure=>simp [intOf];omega
  ·obtain rfl:j=n:=by omega
   have HQ9:=Vh hq
   have HV9:=Vh hV
   have HC9:=Vh hc
   clear hq hV hc
   go_wp2_with fail
   refine bodyPost_ret (results_none rfl _ _ _) rfl ?_
   have e1:ms.take j=ms:=by rw [HN.out,List.take_length]
   refine ⟨rfl,be',A',cap',?_,?_,HC9.out,hb⟩
   ·rw [List.length_append,←HN.out];exact HQ9.out
   ·have:=HV9.out
    rw [e1] at this
    exact this
section
variable {P:Program} {t ty e:TypeId} {k bytes:Nat} {z:Value} {α:Type} {enc:α→List Value}
theorem clone_le (E:Elt P t e k bytes z enc) (w:World) (e0:Addr) (A:Option Addr) (n c:Nat) (xs:List α) (h:Sl w k A n (cat enc xs)) (hn:xs.length=n) (hB:n*bytes≤140737488355328) (h63:n≤maxLen):
 ∃(A':Option Addr) (c':Nat) (w':World),appR P t ty #[.slice (some e0) 0 0,.slice A n c] w=.ok (.slice A' n c') w'∧Sl w' k A' n (cat enc xs)∧Chg [] w w'∧n≤c':=by
 obtain ⟨i0,hi0,hz0,hz1,hz2⟩:=info_parts E.info
 subst hz1
 subst hz2
 rcases Nat.eq_zero_or_pos n with h0|h0
 ·subst h0
  obtain rfl:xs=[]:=List.eq_nil_of_length_eq_zero hn
  exact ⟨_,_,_,run_clone0 E.slice hi0 w e0 A c,⟨by simp [cat],.inl rfl⟩,Chg.refl _ _,Nat.le_refl _⟩
 ·refine ⟨_,_,_,Qdu E.slice hi0 hz0 w e0 A n c _ h h0 h63 hB,⟨h.1,.inr ⟨w.heap.size,0,(cat enc xs++(Builtin.zeroCells z.cells (grownCap w n 0 e-n)).toList).toArray,e,(0,0),rfl,?_,?_⟩⟩,(Chg.refl _ _).drew.alloc _,grownCap_ge w n 0 e⟩
  ·rw [heap_alloc]
   have h2:w.drew.heap[w.heap.size]? =none:=Array.getElem?_eq_none (Nat.le_refl _)
   have h3:w.heap.size=w.drew.heap.size:=rfl
   rw [h2,if_pos h3]
   rfl
  rw [List.drop_zero,List.toList_toArray,List.take_append_of_le_length (by rw [h.1];exact Nat.le_refl _),List.take_of_length_le (by rw [h.1];exact Nat.le_refl _)]
end
theorem sclone_le (A:Option Addr) (n c:Nat) (xs:List Ms) (w:World) (h:Sl w 12 A n (cat Ms.enc xs)) (hn:xs.length=n) (hn2:n≤100000):
 Calls Tryz.prog 193 #[.slice A n c] w fun e w'=>∃A' c',e=.returned (.slice A' n c')∧Sl w' 12 A' n (cat Ms.enc xs)∧Chg [] w w'∧n≤c':=by
 have hq:=fun w A=>Lib.run_eql_slice_nil (P:=Tryz.prog) w 61 38 A n c 0 0 Tryz.underlying61
 cases A with
 |none=>
  have h0:n=0:=by
   rcases h.2 with h0|⟨b,o,c,t,f,he,_⟩
   ·exact h0
   ·cases he
  have HS:=Vh h
  have H0:=Vh h0
  clear h h0
  go_enter Tryz.func193,Tryz.ntmps193
  go_wp2
  go_ret
  refine ⟨none,0,by rw [H0.out];rfl,HS.out,Chg.refl _ _,by rw [H0.out];exact Nat.zero_le _⟩
 |some a=>
  obtain ⟨A',c',w2,happ,hs2,hc2,hle⟩:=clone_le (ty:=61) Qbm (w.alloc (.cells #[] 38)) ⟨w.heap.size,0,none⟩ (some a) n c xs (h.chg ((Chg.refl [] w).alloc _) (by simp)) hn (by omega) Cz29
  have HS2:=Vh hs2
  have HC2:=Vh (((Chg.refl [] w).alloc (.cells #[] 38)).trans hc2)
  have HLE:=Vh hle
  clear h hs2 hc2 hn hle
  go_enter Tryz.func193,Tryz.ntmps193
  go_wp2
  go_ret
  exact ⟨A',c',rfl,HS2.out,HC2.out,HLE.out⟩
theorem app_none (w:World) (A:Option Addr) (n c:Nat) (h:n≤c):appR Tryz.prog 61 61 #[.slice A n c,.slice none 0 0] w=.ok (.slice A n c) w:=by
 obtain ⟨i0,hi0,hz0,hz1,hz2⟩:=info_parts Qbm.info
 cases A<;>simp [appR,Builtin.append_,run_underlying Qbm.slice,sizeOf,typeInfo,hi0,Builtin.lenOf,Builtin.firstCells,loadCells,storeCells,h]
theorem zall_ok (T:TypeId) (C:Array Value) (q o be:Nat) (A:Option Addr) (cap:Nat) (xs:List Ms) (w:World) (hq:w.heap[q]? =some (.cells C T (0,0))) (hC:C[o]? =some (.slice A xs.length cap)) (hB:C[o+1]? =some (.slice none 0 0)) (hl:xs.length≤1000) (hV:Vof 12 38 Ms.enc w q be A cap xs):
 Calls Tryz.prog 80 #[.pointer (some ⟨q,o,none⟩)] w fun e w'=>∃A' c',e=.returned (.slice A' xs.length c')∧Sl w' 12 A' xs.length (cat Ms.enc xs)∧Chg [] w w':=by
 have HS:=Vh (hV.sl Ms.len)
 have HL:=Vh hl
 have oq:=old hq
 have hall:∀w1,Chg [] w w1→Calls Tryz.prog 127 #[.pointer (some ⟨q,o,none⟩)] w1 fun e w'=>∃A' c',e=.returned (.slice A' xs.length c')∧Sl w' 12 A' xs.length (cat Ms.enc xs)∧Chg [] w1 w'∧xs.length≤c':=by
  intro w1 c1
  have hq1:=c1.keep hq (by simp)
  have HS1:=Vh (HS.out.chg c1 (by simp))
  clear hV hq hB c1
  go_enter Tryz.func127,Tryz.ntmps127
  try dsimp only [List.append]
  go_wp2_with (go_at_call 193;refine (sclone_le A xs.length cap xs w1 HS1.out rfl (by have:=HL.out;omega)).mono ?_;rintro e w' ⟨A',c',rfl,hs,hc,hle⟩)
  go_ret
  exact ⟨A',c',rfl,hs,hc,hle⟩
 have HA:=Vh hall
 generalize hn:xs.length=n at *
 clear hall hV
 go_enter Tryz.func80,Tryz.ntmps80
 try dsimp only [List.append]
 go_wp2_with fail
 go_region_held3 (fun w'=>w'.heap[q]? =some (.cells C T (0,0))) (first |exact c2.keep hq Vn|exact hq)
  (first |(go_at_call 127;refine (HA.out _ (Chg.refl [] w).drew).mono ?_;rintro e w' ⟨A',c',rfl,hs,c2,hle⟩;have happ:=fun W=>app_none W A' n c' hle))
 all_goals
  go_wp2_with fail
  go_ret
  exact ⟨A',c',rfl,hs,(Chg.refl [] w).drew.trans c2⟩
end
section
structure Pt where
 s:Sta
 up:List Ms
 an:List Ms
 dn:List Ms
structure Po where
 g:Nat
 a:Nat
 b:Nat
 ub:Nat
 uA:Option Addr
 uc:Nat
 nb:Nat
 nA:Option Addr
 nc:Nat
 db:Nat
 dA:Option Addr
 dc:Nat
def penc (y:Po×Pt):List Value:=[.pointer (some ⟨y.1.g,0,none⟩),.slice y.1.uA y.2.up.length y.1.uc,.slice none 0 0,.slice y.1.nA y.2.an.length y.1.nc,.slice none 0 0,.slice y.1.dA y.2.dn.length y.1.dc,.slice none 0 0]
theorem Qfu (y:Po×Pt):(penc y).length=7:=rfl
def opt (q b:Nat):List Nat:=if b=q then [] else [b]
theorem ZX {q b k:Nat}:k∈opt q b↔k=b∧b≠q:=by
 unfold opt;split<;>simp [*]
def Po.foot (po:Nat) (p:Po):List Nat:=[p.g,p.a,p.b]++(opt po p.ub++(opt po p.nb++opt po p.db))
def PortOk (W w:World) (po S N:Nat) (y:Po×Pt):Prop:=
 Agt W w y.1.g y.1.a y.1.b S N y.2.s∧Vof 12 38 Ms.enc w po y.1.ub y.1.uA y.1.uc y.2.up∧Vof 12 38 Ms.enc w po y.1.nb y.1.nA y.1.nc y.2.an∧Vof 12 38 Ms.enc w po y.1.db y.1.dA y.1.dc y.2.dn
theorem Vof.keepN {α:Type} {k:Nat} {e:TypeId} {enc:α→List Value} {w w':World} {q be:Nat} {A:Option Addr} {cap:Nat} {xs:List α} {l:List Nat} (h:Vof k e enc w q be A cap xs) (hc:Chg l w w') (hb:be≠q→be∉l):Vof k e enc w' q be A cap xs:=by
 by_cases hbq:be=q
 ·rcases h with h|⟨h1,_⟩
  ·exact .inl h
  ·exact absurd hbq h1
 ·exact h.keep hc (hb hbq)
theorem Agt.keepL {W w w':World} {g a b S N:Nat} {s:Sta} {l:List Nat} (h:Agt W w g a b S N s) (hc:Chg l w w') (hl:∀x∈l,W.heap.size≤x) (hg:g∉l) (ha:a∉l) (hb:b∉l):Agt W w' g a b S N s:=
 ⟨⟨h.1.1.trans' hc (fun x hx=>.inr (hl x hx)),h.1.2.1.keep hc ha hb,h.1.2.2⟩,hc.keep h.2.1 hg,h.2.2⟩
theorem PortOk.keep {W w w':World} {po S N:Nat} {y:Po×Pt} {l:List Nat} (h:PortOk W w po S N y) (hc:Chg l w w') (hl:∀x∈l,W.heap.size≤x) (hd:∀x∈y.1.foot po,x∉l):PortOk W w' po S N y:=by
 exact Tz71
theorem PortOk.old {W w:World} {po S N:Nat} {y:Po×Pt} (h:PortOk W w po S N y) (hp:Old w po):∀x∈y.1.foot po,x<w.heap.size:=by
 exact Tz72
theorem cat_set {α:Type} {k:Nat} {enc:α→List Value} (hk:∀a,(enc a).length=k):∀(xs:List α) (i:Nat) (a b:α) (o:Nat) (v:Value),xs[i]? =some a→o<k→enc b=(enc a).set o v→cat enc (xs.set i b)=(cat enc xs).set (i*k+o) v
 |[],i,a,b,o,v,h,_,_=>by simp at h
 |x::xs,0,a,b,o,v,h,ho,he=>by
  simp at h
  subst h
  simp only [List.set_cons_zero,Yw,Nat.zero_mul,Nat.zero_add]
  rw [he,List.set_append_left _ _ (by rw [hk];exact ho)]
 |x::xs,i+1,a,b,o,v,h,ho,he=>by
  simp only [List.getElem?_cons_succ] at h
  simp only [List.set_cons_succ,Yw]
  rw [cat_set hk xs i a b o v h ho he,List.set_append_right _ _ (by rw [hk,Nat.add_mul];omega)]
  congr 2
  rw [hk,Nat.add_mul]
  omega
theorem Qf6 {α:Type} {k:Nat} {enc:α→List Value} (hk:∀a,(enc a).length=k) {xs:List α} {i:Nat} {a b:α} {o:Nat} {v:Value} (h:xs[i]? =some a) (ho:o<k) (he:enc b=(enc a).set o v):(sq enc xs []).setIfInBounds (i*k+o) v=sq enc (xs.set i b) []:=by
 unfold sq
 rw [List.setIfInBounds_toArray,List.append_nil,List.append_nil,cat_set hk xs i a b o v h ho he]
end
section
structure Cg where
 co:Nat
 li:Nat
 vo:Nat
 se:Nat
 wa:Nat
 qu:Nat
 st:Nat
def Cg.enc (c:Cg):List Value:=[.int .i64 c.co,.int .i64 c.li,.int .i64 c.vo,.int .i64 c.se,.int .i64 c.wa,.int .i64 c.qu,.int .i64 c.st]
structure Lay where
 sy:Nat
 q:Nat
 be:Nat
 g:Nat
 b:Nat
 po:Nat
 en:Nat
 ks:List Int
def Lay.enc (z:Lay) (c:Cg):List Value:=c.enc++[.pointer (some ⟨z.q,0,none⟩),.slice (some ⟨z.po,0,none⟩) c.co c.co,.slice (some ⟨z.en,0,none⟩) c.li c.li]++z.ks.map (Value.int .u64)
def Lay.base (z:Lay):List Nat:=[z.sy,z.q,z.g,z.b,z.po,z.en]++opt z.q z.be
def feet (po:Nat) (L:List (Po×Pt)):List Nat:=(L.map (fun y=>y.1.foot po)).flatten
def Lay.all (z:Lay) (L:List (Po×Pt)):List Nat:=z.base++feet z.po L
structure Msd (W w:World) (c:Cg) (z:Lay) (L:List (Po×Pt)) (en:List En) (es:List Ent) (xs:List Int):Prop where
 chg:Chg [] W w
 sys:w.heap[z.sy]? =some (.cells (z.enc c).toArray 95 (0,0))
 six:z.ks.length=6
 mem:Sys W w z.q z.be z.g z.b c.li c.vo c.qu es xs
 ports:w.heap[z.po]? =some (.cells (sq penc L []) 139 (0,0))
 cores:L.length=c.co
 ents:w.heap[z.en]? =some (.cells (sq En.enc en []) 56 (0,0))
 lines:en.length=c.li
 ok:∀y∈L,PortOk W w z.po c.se c.wa y
 apart:(z.all L).Nodup
 new:∀k∈z.all L,W.heap.size≤k
theorem Jc {po:Nat} {L:List (Po×Pt)} {k:Nat}:k∈feet po L↔∃y∈L,k∈y.1.foot po:=by
 unfold feet;simp only [List.mem_flatten,List.mem_map]
 constructor
 ·rintro ⟨l,⟨y,hy,rfl⟩,hk⟩;exact ⟨y,hy,hk⟩
 ·rintro ⟨y,hy,hk⟩;exact ⟨_,⟨y,hy,rfl⟩,hk⟩
section
variable {W w w':World} {c:Cg} {z:Lay} {L:List (Po×Pt)} {en:List En} {es:List Ent} {xs:List Int} (h:Msd W w c z L en es xs)
include h
theorem Msd.oldp:Old w z.po:=Go.Proofs.YtadeoflkppiflaaGreatDoor.old h.ports
theorem Msd.old:∀k∈z.all L,k<w.heap.size:=by
 intro k hk
 unfold Lay.all Lay.base at hk
 simp only [List.mem_append,List.mem_cons,Vn,or_false,ZX,Jc] at hk
 rcases hk with ((h1|h1|h1|h1|h1|h1)|h1)|⟨y,hy,h1⟩
 ·rw [h1];exact ZS h.sys
 ·rw [h1];exact h.mem.2.1.oldq.lt
 ·rw [h1];exact h.mem.2.2.1.oldg
 ·rw [h1];exact h.mem.2.2.1.oldb
 ·rw [h1];exact ZS h.ports
 ·rw [h1];exact ZS h.ents
 ·rw [h1.1];exact h.mem.2.1.olde.lt
 ·exact (h.ok y hy).old h.oldp k h1
theorem Msd.own {i:Nat} {y:Po×Pt} (hy:L[i]? =some y):∀k∈y.1.foot z.po,k∉z.base∧(∀j y',L[j]? =some y'→j≠i→k∉y'.1.foot z.po)∧k∈z.all L:=by
 intro k hk
 have hm:k∈feet z.po L:=Jc.2 ⟨y,List.mem_of_getElem? hy,hk⟩
 have hn:=h.apart
 unfold Lay.all at hn ⊢
 exact Tz51
theorem Msd.nodupB:z.base.Nodup:=(List.nodup_append.1 h.apart).1
theorem Msd.foot1 {y:Po×Pt} (hy:y∈L):(y.1.foot z.po).Nodup:=by
 have hf:=(List.nodup_append.1 h.apart).2.1
 unfold feet List.Nodup at hf
 exact (List.pairwise_flatten.1 hf).1 _ (List.mem_map_of_mem hy)
theorem Msd.keep (hc:Chg [] w w'):Msd W w' c z L en es xs:=
 ⟨h.chg.trans hc,hc.keep h.sys (by simp),h.six,h.mem.keep hc,hc.keep h.ports (by simp),h.cores,hc.keep h.ents (by simp),h.lines,fun y hy=>(h.ok y hy).keep hc (by simp) (by simp),h.apart,h.new⟩
theorem Msd.keepL {l:List Nat} (hc:Chg l w w') (hl:∀k∈l,k∉z.all L) (hw:∀k∈l,W.heap.size≤k):Msd W w' c z L en es xs:=by
 have e:∀k∈z.all L,k∉l:=fun k hk hm=>hl k hm hk
 have eb:∀k∈z.base,k∉l:=fun k hk=>e k (List.mem_append_left _ hk)
 have e6:z.sy∉l∧z.q∉l∧z.g∉l∧z.b∉l∧z.po∉l∧z.en∉l:=by
  refine ⟨eb _ ?_,eb _ ?_,eb _ ?_,eb _ ?_,eb _ ?_,eb _ ?_⟩<;>simp [Lay.base]
 have e7:z.be∉l:=by
  by_cases hb:z.be=z.q
  ·rw [hb];exact e6.2.1
  ·exact eb _ (by simp [Lay.base,ZX,hb])
 refine ⟨h.chg.trans' hc (fun k hk=>.inr (hw k hk)),hc.keep h.sys e6.1,h.six,⟨h.mem.1.trans' hc (fun k hk=>.inr (hw k hk)),h.mem.2.1.keep hc e6.2.1 e7,h.mem.2.2.1.keep hc e6.2.2.1 e6.2.2.2.1,h.mem.2.2.2⟩,hc.keep h.ports e6.2.2.2.2.1,h.cores,hc.keep h.ents e6.2.2.2.2.2,h.lines,?_,h.apart,h.new⟩
 intro y hy
 refine (h.ok y hy).keep hc hw (fun k hk=>e k ?_)
 exact List.mem_append_right _ (Jc.2 ⟨y,hy,hk⟩)
end
theorem nodup_feet {po:Nat} {L:List (Po×Pt)} (h1:∀y∈L,(y.1.foot po).Nodup) (h2:∀(i j:Nat) (y y':Po×Pt),i≠j→L[i]? =some y→L[j]? =some y'→∀k∈y.1.foot po,k∉y'.1.foot po):(feet po L).Nodup:=by
 unfold feet List.Nodup
 rw [List.pairwise_flatten]
 refine ⟨?_,?_⟩
 ·intro l hl
  obtain ⟨y,hy,rfl⟩:=List.mem_map.1 hl
  exact h1 y hy
 ·rw [List.pairwise_map,List.pairwise_iff_getElem]
  intro i j hi hj hij k hk k' hk' e
  subst e
  exact h2 i j _ _ (by omega) (List.getElem?_eq_getElem hi) (List.getElem?_eq_getElem hj) k hk hk'
theorem Lay.inB {z:Lay} {L:List (Po×Pt)} {k:Nat} (hk:k∈z.base):k∈z.all L:=List.mem_append_left _ hk
theorem Lay.beB {z:Lay} {k:Nat} (hk:k=z.sy∨k=z.q∨k=z.g∨k=z.b∨k=z.po∨k=z.en∨k=z.be):k∈z.base:=by
 unfold Lay.base
 exact Tz135
def MTo (W w:World) (c:Cg) (z:Lay) (L:List (Po×Pt)) (z':Lay) (L':List (Po×Pt)) (en:List En) (es:List Ent) (xs:List Int) (w':World):Prop:=
 Msd W w' c z' L' en es xs∧Chg (z.all L) w w'∧∀k∈z'.all L',k∈z.all L∨w.heap.size≤k
theorem MTo.trans {W w w1 w2:World} {c:Cg} {z z1 z2:Lay} {L L1 L2:List (Po×Pt)} {en1 en2:List En} {es1 es2:List Ent} {xs1 xs2:List Int}
 (h1:MTo W w c z L z1 L1 en1 es1 xs1 w1) (h2:MTo W w1 c z1 L1 z2 L2 en2 es2 xs2 w2):MTo W w c z L z2 L2 en2 es2 xs2 w2:=by
 refine ⟨h2.1,h1.2.1.trans' h2.2.1 h1.2.2,fun k hk=>?_⟩
 rcases h2.2.2 k hk with h|h
 ·exact h1.2.2 k h
 ·exact .inr (Nat.le_trans h1.2.1.size h)
section
variable {W w w':World} {c:Cg} {z:Lay} {L:List (Po×Pt)} {en:List En} {es:List Ent} {xs:List Int} (h:Msd W w c z L en es xs)
include h
theorem Msd.stay (hc:Chg [] w w'):MTo W w c z L z L en es xs w':=⟨h.keep hc,hc.mono (by simp),fun k hk=>.inl hk⟩
theorem Msd.inW {l:List Nat} (hl:∀k∈l,k∈z.all L):∀k∈l,W.heap.size≤k:=fun k hk=>h.new k (hl k hk)
theorem Msd.ne6:(z.sy≠z.q∧z.sy≠z.g∧z.sy≠z.b∧z.sy≠z.po∧z.sy≠z.en)∧(z.q≠z.g∧z.q≠z.b∧z.q≠z.po∧z.q≠z.en)∧(z.g≠z.b∧z.g≠z.po∧z.g≠z.en)∧(z.b≠z.po∧z.b≠z.en)∧z.po≠z.en∧(z.be≠z.sy∧z.be≠z.g∧z.be≠z.b∧z.be≠z.po∧z.be≠z.en):=by
 have hn:=h.nodupB
 unfold Lay.base opt at hn
 exact Tz55
end
theorem sub_new {z:Lay} {L:List (Po×Pt)} {W w:World} {c:Cg} {en:List En} {es:List Ent} {xs:List Int} (h:Msd W w c z L en es xs) {z':Lay} {L':List (Po×Pt)} (hs:∀k∈z'.all L',k∈z.all L∨w.heap.size≤k):∀k∈z'.all L',W.heap.size≤k:=fun k hk=>by
 rcases hs k hk with h1|h1
 ·exact h.new k h1
 ·exact Nat.le_trans h.chg.size h1
section
variable {W w w':World} {c:Cg} {z:Lay} {L:List (Po×Pt)} {en:List En} {es:List Ent} {xs:List Int} (h:Msd W w c z L en es xs)
include h
theorem Msd.port {i:Nat} {y y':Po×Pt} (hy:L[i]? =some y) {l:List Nat} (hc:Chg l w w') (hl:∀k∈l,k=z.po∨k∈y.1.foot z.po)
 (hp:w'.heap[z.po]? =some (.cells (sq penc (L.set i y') []) 139 (0,0))) (hok:PortOk W w' z.po c.se c.wa y') (hf:∀k∈y'.1.foot z.po,k∈y.1.foot z.po∨w.heap.size≤k) (hn:(y'.1.foot z.po).Nodup):
 MTo W w c z L z (L.set i y') en es xs w':=by
 have n6:=h.ne6
 have hown:=h.own hy
 have hold:=h.old
 have hla:∀k∈l,k∈z.all L:=by
  intro k hk
  rcases hl k hk with h1|h1
  ·exact Lay.inB (Lay.beB (by simp [h1]))
  ·exact (hown k h1).2.2
 have hw:=h.inW hla
 have nb:∀k,k∈z.base→k≠z.po→k∉l:=by
  intro k hb hp hm
  rcases hl k hm with h1|h1
  ·exact hp h1
  ·exact (hown k h1).1 hb
 have e7:z.be∉l:=nb _ (Lay.beB (by simp)) n6.2.2.2.2.2.2.2.2.1
 obtain ⟨hi1,hi2⟩:=Vg hy
 have hset:∀j y1,(L.set i y')[j]? =some y1→(j=i∧y1=y')∨(j≠i∧L[j]? =some y1):=by
  exact Tz133
 have hmem:∀k∈z.all (L.set i y'),k∈z.all L∨w.heap.size≤k:=by
  intro k hk
  unfold Lay.all at hk
  rw [List.mem_append,Jc] at hk
  rcases hk with hk|⟨y1,hy1,hk⟩
  ·exact .inl (Lay.inB hk)
  ·obtain ⟨j,hj⟩:=List.getElem?_of_mem hy1
   exact Tz115
 have hfo:∀j y1,L[j]? =some y1→j≠i→∀k∈y1.1.foot z.po,k∉l:=by
  intro j y1 hj hji k hk hm
  rcases hl k hm with h1|h1
  ·exact (h.own hj k hk).1 (Lay.beB (by simp [h1]))
  ·exact (hown k h1).2.1 j y1 hj hji hk
 refine ⟨⟨h.chg.trans' hc (fun k hk=>.inr (hw k hk)),hc.keep h.sys (nb _ (Lay.beB (by simp)) n6.1.2.2.2.1),h.six,⟨h.mem.1.trans' hc (fun k hk=>.inr (hw k hk)),h.mem.2.1.keep hc (nb _ (Lay.beB (by simp)) n6.2.1.2.2.1) e7,h.mem.2.2.1.keep hc (nb _ (Lay.beB (by simp)) n6.2.2.1.2.1) (nb _ (Lay.beB (by simp)) n6.2.2.2.1.1),h.mem.2.2.2⟩,hp,by rw [List.length_set];exact h.cores,hc.keep h.ents (nb _ (Lay.beB (by simp)) (Ne.symm n6.2.2.2.2.1)),h.lines,?_,?_,sub_new h hmem⟩,hc.mono (fun k hk=>.inl (hla k hk)),hmem⟩
 ·intro y1 hy1
  exact Tz123
 ·unfold Lay.all
  rw [List.nodup_append]
  refine ⟨h.nodupB,nodup_feet ?_ ?_,?_⟩
  ·intro y1 hy1
   obtain ⟨j,hj⟩:=List.getElem?_of_mem hy1
   rcases hset j y1 hj with ⟨_,rfl⟩|⟨_,h2⟩
   ·exact hn
   ·exact h.foot1 (List.mem_of_getElem? h2)
  ·intro a b ya yb hab ha hb k hka hkb
   exact Tz62
  ·intro k hkb k' hk' e
   subst e
   obtain ⟨y1,hy1,hk1⟩:=Jc.1 hk'
   obtain ⟨j,hj⟩:=List.getElem?_of_mem hy1
   rcases hset j y1 hj with ⟨_,rfl⟩|⟨_,h2⟩
   ·rcases hf k hk1 with h3|h3
    ·exact (hown k h3).1 hkb
    ·have:=hold k (Lay.inB hkb)
     omega
   ·exact (h.own h2 k hk1).1 hkb
end
section
variable {W w w':World} {c:Cg} {z:Lay} {L:List (Po×Pt)} {en:List En} {es:List Ent} {xs:List Int} (h:Msd W w c z L en es xs)
include h
theorem Msd.okB {l:List Nat} (hc:Chg l w w') (hl:∀k∈l,k∈z.base∨w.heap.size≤k):∀y∈L,PortOk W w' z.po c.se c.wa y:=by
 intro y hy
 obtain ⟨j,hj⟩:=List.getElem?_of_mem hy
 refine (h.ok y hy).keep hc ?_ ?_
 ·intro k hk
  rcases hl k hk with h1|h1
  ·exact h.new k (Lay.inB h1)
  ·exact Nat.le_trans h.chg.size h1
 ·intro k hk hm
  rcases hl k hm with h1|h1
  ·exact (h.own hj k hk).1 h1
  ·have:=h.old k (h.own hj k hk).2.2
   omega
theorem Msd.memory {es':List Ent} {xs':List Int} {be':Nat} (hs:Sys W w' z.q be' z.g z.b c.li c.vo c.qu es' xs') (hc:Chg [z.q,z.be,z.g,z.b] w w') (hb:be'=z.be∨w.heap.size≤be'):
 MTo W w c z L {z with be:=be'} L en es' xs' w':=by
 have n6:=h.ne6
 have hold:=h.old
 have hl:∀k∈[z.q,z.be,z.g,z.b],k∈z.base:=by
  intro k hk
  simp only [List.mem_cons,Vn,or_false] at hk
  exact Lay.beB (by rcases hk with h|h|h|h<;>simp [h])
 have hla:∀k∈[z.q,z.be,z.g,z.b],k∈z.all L:=fun k hk=>Lay.inB (hl k hk)
 have hnb:∀k∈({z with be:=be'}:Lay).base,k∈z.base∨w.heap.size≤k:=by
  intro k hk
  unfold Lay.base at hk
  simp only [List.mem_append,List.mem_cons,Vn,or_false,ZX] at hk
  rcases hk with (h1|h1|h1|h1|h1|h1)|h1
  ·exact .inl (Lay.beB (by simp [h1]))
  ·exact .inl (Lay.beB (by simp [h1]))
  ·exact .inl (Lay.beB (by simp [h1]))
  ·exact .inl (Lay.beB (by simp [h1]))
  ·exact .inl (Lay.beB (by simp [h1]))
  ·exact .inl (Lay.beB (by simp [h1]))
  ·rcases hb with h2|h2
   ·exact .inl (Lay.beB (by simp [h1.1,h2]))
   ·exact .inr (by rw [h1.1];exact h2)
 have hmem:∀k∈({z with be:=be'}:Lay).all L,k∈z.all L∨w.heap.size≤k:=by
  intro k hk
  unfold Lay.all at hk ⊢
  exact Tz127
 have e6:∀k,k∈[z.sy,z.po,z.en]→k∉[z.q,z.be,z.g,z.b]:=by
  exact Tz67
 refine ⟨⟨hs.1,hc.keep h.sys (e6 _ (by simp)),h.six,hs,hc.keep h.ports (e6 _ (by simp)),h.cores,hc.keep h.ents (e6 _ (by simp)),h.lines,h.okB hc (fun k hk=>.inl (hl k hk)),?_,sub_new h hmem⟩,hc.mono (fun k hk=>.inl (hla k hk)),hmem⟩
 have hn:=h.apart
 unfold Lay.all at hn ⊢
 rw [List.nodup_append] at hn ⊢
 refine ⟨?_,hn.2.1,?_⟩
 ·have hz:=hn.1
  have hlt:∀k,k∈z.base→k<w.heap.size:=fun k hk=>hold k (Lay.inB hk)
  unfold Lay.base at hz ⊢
  rw [List.nodup_append] at hz ⊢
  refine ⟨hz.1,?_,?_⟩
  ·unfold opt;split<;>simp
  ·intro a ha b hb' e
   subst e
   obtain ⟨h1,h2⟩:=ZX.1 hb'
   rcases hb with h3|h3
   ·exact hz.2.2 a ha a (ZX.2 ⟨by rw [h1];exact h3,by rw [←h3];exact h2⟩) rfl
   ·have:=hlt a (List.mem_append_left _ ha)
    have h4:a=be':=h1
    omega
 ·intro k hk k' hk' e
  subst e
  rcases hnb k hk with h1|h1
  ·exact hn.2.2 k h1 k hk' rfl
  ·have:=hold k (List.mem_append_right _ hk')
   omega
theorem Msd.other {ks':List Int} {en':List En} {k:Nat} (hk:k=z.sy∨k=z.en) (hc:Chg [k] w w') (h1:w'.heap[z.sy]? =some (.cells (({z with ks:=ks'}:Lay).enc c).toArray 95 (0,0))) (h2:ks'.length=6)
 (h3:w'.heap[z.en]? =some (.cells (sq En.enc en' []) 56 (0,0))) (h4:en'.length=c.li):MTo W w c z L {z with ks:=ks'} L en' es xs w':=by
 have n6:=h.ne6
 have hl:∀x∈[k],x∈z.base:=by
  intro x hx
  rw [List.mem_singleton] at hx
  exact Lay.beB (by rcases hk with h|h<;>simp [hx,h])
 have hla:∀x∈[k],x∈z.all L:=fun x hx=>Lay.inB (hl x hx)
 have hw:=h.inW hla
 have e:∀x,x∈[z.q,z.be,z.g,z.b,z.po]→x∉[k]:=by
  intro x hx
  simp only [List.mem_cons,Vn,or_false] at hx ⊢
  rcases hk with rfl|rfl
  ·rcases hx with rfl|rfl|rfl|rfl|rfl
   ·exact Ne.symm n6.1.1
   ·exact n6.2.2.2.2.2.1
   ·exact Ne.symm n6.1.2.1
   ·exact Ne.symm n6.1.2.2.1
   ·exact Ne.symm n6.1.2.2.2.1
  ·rcases hx with rfl|rfl|rfl|rfl|rfl
   ·exact n6.2.1.2.2.2
   ·exact n6.2.2.2.2.2.2.2.2.2
   ·exact n6.2.2.1.2.2
   ·exact n6.2.2.2.1.2
   ·exact n6.2.2.2.2.1
 have hcw:=h.chg.trans' hc (fun x hx=>.inr (hw x hx))
 exact ⟨⟨hcw,h1,h2,⟨hcw,h.mem.2.1.keep hc (e _ (by simp)) (e _ (by simp)),h.mem.2.2.1.keep hc (e _ (by simp)) (e _ (by simp)),h.mem.2.2.2⟩,hc.keep h.ports (e _ (by simp)),h.cores,h3,h4,h.okB hc (fun x hx=>.inl (hl x hx)),h.apart,h.new⟩,hc.mono (fun x hx=>.inl (hla x hx)),fun x hx=>.inl hx⟩
end
end
section
theorem sq_same {α:Type} {enc:α→List Value} {xs:List α} {i:Nat} {a b:α} (h:xs[i]? =some a) (he:enc b=enc a):sq enc (xs.set i b) []=sq enc xs []:=by
 exact Tz102
theorem Yk {po:Nat} {p:Po}:(p.foot po).Nodup↔(p.g≠p.a∧p.g≠p.b∧p.a≠p.b)∧(p.ub≠po→p.g≠p.ub∧p.a≠p.ub∧p.b≠p.ub)∧(p.nb≠po→p.g≠p.nb∧p.a≠p.nb∧p.b≠p.nb)∧(p.db≠po→p.g≠p.db∧p.a≠p.db∧p.b≠p.db)∧(p.ub≠po→p.nb≠po→p.ub≠p.nb)∧(p.ub≠po→p.db≠po→p.ub≠p.db)∧(p.nb≠po→p.db≠po→p.nb≠p.db):=by
 unfold Po.foot opt
 by_cases b1:p.ub=po<;>by_cases b2:p.nb=po<;>by_cases b3:p.db=po<;>simp [b1,b2,b3]<;>omega
section
variable {W w w':World} {c:Cg} {z:Lay} {L:List (Po×Pt)} {en:List En} {es:List Ent} {xs:List Int} (h:Msd W w c z L en es xs)
include h
theorem Msd.agent {i:Nat} {p:Po} {x:Pt} {s:Sta} (hy:L[i]? =some (p,x)) (ha:Agt W w' p.g p.a p.b c.se c.wa s) (hc:Chg [p.a,p.b] w w'):MTo W w c z L z (L.set i (p,{x with s:=s})) en es xs w':=by
 have hk:=h.ok _ (List.mem_of_getElem? hy)
 have hown:=h.own hy
 have hl:∀k∈[p.a,p.b],k∈p.foot z.po:=by
  intro k hk
  simp only [List.mem_cons,Vn,or_false] at hk
  unfold Po.foot
  rcases hk with rfl|rfl<;>simp
 have hfn:=h.foot1 (List.mem_of_getElem? hy)
 have hpo:z.po∉[p.a,p.b]:=fun hm=>(hown _ (hl _ hm)).1 (Lay.beB (by simp))
 have hq:∀k,k∈opt z.po p.ub++(opt z.po p.nb++opt z.po p.db)→k∉[p.a,p.b]:=by
  exact Tz129
 refine h.port hy hc (fun k hk=>.inr (hl k hk)) ?_ ⟨ha,hk.2.1.keepN hc ?_,hk.2.2.1.keepN hc ?_,hk.2.2.2.keepN hc ?_⟩ (fun k hk=>.inl hk) hfn
 ·rw [sq_same hy (by rfl)]
  exact hc.keep h.ports hpo
 ·intro hb;exact hq _ (by simp [ZX,hb])
 ·intro hb;exact hq _ (by simp [ZX,hb])
 ·intro hb;exact hq _ (by simp [ZX,hb])
theorem Msd.queue_up {i:Nat} {p:Po} {x:Pt} {ys:List Ms} {v:Value} {e:Ending} (hy:L[i]? =some (p,x)) (hq:Qhb 139 (sq penc L []) z.po (i*7+1) p.ub w ys v e w'):
 e=.returned v∧∃p',p'.g=p.g∧MTo W w c z L z (L.set i (p',{x with up:=ys})) en es xs w':=by
 obtain ⟨he,be',A',cap',h1,h2,hc,hb⟩:=hq
 have hk:=h.ok _ (List.mem_of_getElem? hy)
 have hown:=h.own hy
 have hfn:=h.foot1 (List.mem_of_getElem? hy)
 have hnew:∀k∈p.foot z.po,k<w.heap.size:=fun k hk'=>h.old k (hown k hk').2.2
 have hin:∀k,(k=p.g∨k=p.a∨k=p.b∨(k=p.ub∧p.ub≠z.po)∨(k=p.nb∧p.nb≠z.po)∨(k=p.db∧p.db≠z.po))→k∈p.foot z.po:=by
  intro k hk
  exact Tz43
 have hpo:∀k∈p.foot z.po,k≠z.po:=fun k hk e=>(hown k hk).1 (Lay.beB (by simp [e]))
 obtain ⟨⟨d1,d2,d3⟩,du,dn,dd,dun,dud,dnd⟩:=Yk.1 hfn
 have gabl:∀k,(k=p.g∨k=p.a∨k=p.b)→k∉[z.po,p.ub]:=by
  exact Tz124
 have hw:∀k∈[z.po,p.ub],W.heap.size≤k:=by
  intro k hk
  refine h.new k ?_
  simp only [List.mem_cons,Vn,or_false] at hk
  rcases hk with rfl|rfl
  ·exact Lay.inB (Lay.beB (by simp))
  ·by_cases hb:p.ub=z.po
   ·rw [hb];exact Lay.inB (Lay.beB (by simp))
   ·exact (hown _ (hin _ (by simp [hb]))).2.2
 have hbl:be'=p.ub∨(be'∉p.foot z.po∧be'≠z.po):=by
  exact Tz47
 have o_n:p.nb≠z.po→p.nb∉[z.po,p.ub]:=by
  intro hb
  simp only [List.mem_cons,Vn,or_false,not_or]
  refine ⟨hb,fun e=>?_⟩
  have h4:p.ub≠z.po:=fun e2=>hb (e.trans e2)
  exact dun h4 hb e.symm
 have o_d:p.db≠z.po→p.db∉[z.po,p.ub]:=by
  intro hb
  simp only [List.mem_cons,Vn,or_false,not_or]
  refine ⟨hb,fun e=>?_⟩
  have h4:p.ub≠z.po:=fun e2=>hb (e.trans e2)
  exact dud h4 hb e.symm
 refine ⟨he,{p with ub:=be',uA:=A',uc:=cap'},rfl,h.port hy hc ?_ ?_ ⟨hk.1.keepL hc hw (gabl _ (by simp)) (gabl _ (by simp)) (gabl _ (by simp)),h2,hk.2.2.1.keepN hc o_n,hk.2.2.2.keepN hc o_d⟩ ?_ ?_⟩
 ·intro k hk
  exact Tz140
 ·rw [Qf6 (b:=({p with ub:=be',uA:=A',uc:=cap'},{x with up:=ys})) Qfu hy (by decide) (by rfl)] at h1
  exact h1
 ·intro k hk
  exact Tz82
 ·rcases hbl with h3|⟨h3,h4⟩
  ·subst h3;exact hfn
  ·have i1:∀k,(k=p.g∨k=p.a∨k=p.b∨(k=p.ub∧p.ub≠z.po)∨(k=p.nb∧p.nb≠z.po)∨(k=p.db∧p.db≠z.po))→k≠be':=fun k hk e=>h3 (e▸hin k hk)
   exact Tz18
theorem Msd.queue_an {i:Nat} {p:Po} {x:Pt} {ys:List Ms} {v:Value} {e:Ending} (hy:L[i]? =some (p,x)) (hq:Qhb 139 (sq penc L []) z.po (i*7+3) p.nb w ys v e w'):
 e=.returned v∧∃p',p'.g=p.g∧MTo W w c z L z (L.set i (p',{x with an:=ys})) en es xs w':=by
 obtain ⟨he,be',A',cap',h1,h2,hc,hb⟩:=hq
 have hk:=h.ok _ (List.mem_of_getElem? hy)
 have hown:=h.own hy
 have hfn:=h.foot1 (List.mem_of_getElem? hy)
 have hnew:∀k∈p.foot z.po,k<w.heap.size:=fun k hk'=>h.old k (hown k hk').2.2
 have hin:∀k,(k=p.g∨k=p.a∨k=p.b∨(k=p.ub∧p.ub≠z.po)∨(k=p.nb∧p.nb≠z.po)∨(k=p.db∧p.db≠z.po))→k∈p.foot z.po:=by
  intro k hk
  exact Tz43
 have hpo:∀k∈p.foot z.po,k≠z.po:=fun k hk e=>(hown k hk).1 (Lay.beB (by simp [e]))
 obtain ⟨⟨d1,d2,d3⟩,du,dn,dd,dun,dud,dnd⟩:=Yk.1 hfn
 have gabl:∀k,(k=p.g∨k=p.a∨k=p.b)→k∉[z.po,p.nb]:=by
  exact Tz125
 have hw:∀k∈[z.po,p.nb],W.heap.size≤k:=by
  intro k hk
  refine h.new k ?_
  simp only [List.mem_cons,Vn,or_false] at hk
  rcases hk with rfl|rfl
  ·exact Lay.inB (Lay.beB (by simp))
  ·by_cases hb:p.nb=z.po
   ·rw [hb];exact Lay.inB (Lay.beB (by simp))
   ·exact (hown _ (hin _ (by simp [hb]))).2.2
 have hbl:be'=p.nb∨(be'∉p.foot z.po∧be'≠z.po):=by
  exact Tz47
 have o_u:p.ub≠z.po→p.ub∉[z.po,p.nb]:=by
  intro hb
  simp only [List.mem_cons,Vn,or_false,not_or]
  refine ⟨hb,fun e=>?_⟩
  have h4:p.nb≠z.po:=fun e2=>hb (e.trans e2)
  exact dun hb h4 e
 have o_d:p.db≠z.po→p.db∉[z.po,p.nb]:=by
  intro hb
  simp only [List.mem_cons,Vn,or_false,not_or]
  refine ⟨hb,fun e=>?_⟩
  have h4:p.nb≠z.po:=fun e2=>hb (e.trans e2)
  exact dnd h4 hb e.symm
 refine ⟨he,{p with nb:=be',nA:=A',nc:=cap'},rfl,h.port hy hc ?_ ?_ ⟨hk.1.keepL hc hw (gabl _ (by simp)) (gabl _ (by simp)) (gabl _ (by simp)),hk.2.1.keepN hc o_u,h2,hk.2.2.2.keepN hc o_d⟩ ?_ ?_⟩
 ·intro k hk
  exact Tz141
 ·rw [Qf6 (b:=({p with nb:=be',nA:=A',nc:=cap'},{x with an:=ys})) Qfu hy (by decide) (by rfl)] at h1
  exact h1
 ·intro k hk
  exact Tz81
 ·rcases hbl with h3|⟨h3,h4⟩
  ·subst h3;exact hfn
  ·have i1:∀k,(k=p.g∨k=p.a∨k=p.b∨(k=p.ub∧p.ub≠z.po)∨(k=p.nb∧p.nb≠z.po)∨(k=p.db∧p.db≠z.po))→k≠be':=fun k hk e=>h3 (e▸hin k hk)
   exact Tz18
theorem Msd.queue_dn {i:Nat} {p:Po} {x:Pt} {ys:List Ms} {v:Value} {e:Ending} (hy:L[i]? =some (p,x)) (hq:Qhb 139 (sq penc L []) z.po (i*7+5) p.db w ys v e w'):
 e=.returned v∧∃p',p'.g=p.g∧MTo W w c z L z (L.set i (p',{x with dn:=ys})) en es xs w':=by
 obtain ⟨he,be',A',cap',h1,h2,hc,hb⟩:=hq
 have hk:=h.ok _ (List.mem_of_getElem? hy)
 have hown:=h.own hy
 have hfn:=h.foot1 (List.mem_of_getElem? hy)
 have hnew:∀k∈p.foot z.po,k<w.heap.size:=fun k hk'=>h.old k (hown k hk').2.2
 have hin:∀k,(k=p.g∨k=p.a∨k=p.b∨(k=p.ub∧p.ub≠z.po)∨(k=p.nb∧p.nb≠z.po)∨(k=p.db∧p.db≠z.po))→k∈p.foot z.po:=by
  intro k hk
  exact Tz43
 have hpo:∀k∈p.foot z.po,k≠z.po:=fun k hk e=>(hown k hk).1 (Lay.beB (by simp [e]))
 obtain ⟨⟨d1,d2,d3⟩,du,dn,dd,dun,dud,dnd⟩:=Yk.1 hfn
 have gabl:∀k,(k=p.g∨k=p.a∨k=p.b)→k∉[z.po,p.db]:=by
  exact Tz126
 have hw:∀k∈[z.po,p.db],W.heap.size≤k:=by
  intro k hk
  refine h.new k ?_
  simp only [List.mem_cons,Vn,or_false] at hk
  rcases hk with rfl|rfl
  ·exact Lay.inB (Lay.beB (by simp))
  ·by_cases hb:p.db=z.po
   ·rw [hb];exact Lay.inB (Lay.beB (by simp))
   ·exact (hown _ (hin _ (by simp [hb]))).2.2
 have hbl:be'=p.db∨(be'∉p.foot z.po∧be'≠z.po):=by
  exact Tz47
 have o_u:p.ub≠z.po→p.ub∉[z.po,p.db]:=by
  intro hb
  simp only [List.mem_cons,Vn,or_false,not_or]
  refine ⟨hb,fun e=>?_⟩
  have h4:p.db≠z.po:=fun e2=>hb (e.trans e2)
  exact dud hb h4 e
 have o_n:p.nb≠z.po→p.nb∉[z.po,p.db]:=by
  intro hb
  simp only [List.mem_cons,Vn,or_false,not_or]
  refine ⟨hb,fun e=>?_⟩
  have h4:p.db≠z.po:=fun e2=>hb (e.trans e2)
  exact dnd hb h4 e
 refine ⟨he,{p with db:=be',dA:=A',dc:=cap'},rfl,h.port hy hc ?_ ?_ ⟨hk.1.keepL hc hw (gabl _ (by simp)) (gabl _ (by simp)) (gabl _ (by simp)),hk.2.1.keepN hc o_u,hk.2.2.1.keepN hc o_n,h2⟩ ?_ ?_⟩
 ·intro k hk
  exact Tz142
 ·rw [Qf6 (b:=({p with db:=be',dA:=A',dc:=cap'},{x with dn:=ys})) Qfu hy (by decide) (by rfl)] at h1
  exact h1
 ·intro k hk
  exact Tz80
 ·rcases hbl with h3|⟨h3,h4⟩
  ·subst h3;exact hfn
  ·have i1:∀k,(k=p.g∨k=p.a∨k=p.b∨(k=p.ub∧p.ub≠z.po)∨(k=p.nb∧p.nb≠z.po)∨(k=p.db∧p.db≠z.po))→k≠be':=fun k hk e=>h3 (e▸hin k hk)
   exact Tz18
end
end
section
theorem Y8 (z:Lay) (c:Cg):(z.enc c).toArray[7]? =some (.pointer (some ⟨z.q,0,none⟩)):=rfl
theorem Yh (z:Lay) (c:Cg):(z.enc c).toArray[8]? =some (.slice (some ⟨z.po,0,none⟩) c.co c.co):=rfl
theorem Yi (z:Lay) (c:Cg):(z.enc c).toArray[9]? =some (.slice (some ⟨z.en,0,none⟩) c.li c.li):=rfl
attribute [local go_sem ↓] Xg Yh Yi Y8
attribute [local simp] Xg
def inB (k:Int) (n:Nat):Bool:=decide (0≤k)&&decide (k<n)
section
variable {W:World} {c:Cg} {z:Lay} {L:List (Po×Pt)} {en:List En} {es:List Ent} {xs:List Int}
theorem Qce (k:Int) (w:World) (h:Msd W w c z L en es xs) (hk:inB k c.co=false):Calls Tryz.prog 74 #[.pointer (some ⟨z.sy,0,none⟩),.int .i64 k] w fun e w'=>e=.returned (.pointer none)∧w=w':=by
 have rS:=h.sys
 have HK:=Vh hk
 clear h hk
 by_cases h0:k<0
 ·have t1:decide (k<0)=true:=by simpa using h0
  go_enter Tryz.func74,Tryz.ntmps74
  exact Tz44
 ·have t1:decide (k<0)=false:=by simpa using h0
  have t2:decide ((c.co:Int)≤k)=true:=by have:=HK.out;unfold inB at this;simp at this ⊢;omega
  clear HK h0
  go_enter Tryz.func74,Tryz.ntmps74
  exact Tz44
theorem Yq (k:Nat) (w:World) (h:Msd W w c z L en es xs) (hk:k<c.co):Calls Tryz.prog 74 #[.pointer (some ⟨z.sy,0,none⟩),.int .i64 k] w fun e w'=>e=.returned (.pointer (some ⟨z.po,k*7,none⟩))∧w=w':=by
 have rS:=h.sys
 have t1:decide ((k:Int)<0)=false:=by simp
 have t2:decide ((c.co:Int)≤(k:Int))=false:=by simp;omega
 have g0:(0:Int)≤(k:Int):=by omega
 have g1:(k:Int)<(c.co:Int):=by omega
 clear h hk
 go_enter Tryz.func74,Tryz.ntmps74
 exact Tz44
theorem isline_any (k:Int) (w:World) (h:Msd W w c z L en es xs):Calls Tryz.prog 76 #[.pointer (some ⟨z.sy,0,none⟩),.int .i64 k] w fun e w'=>e=.returned (.bool (inB k c.li))∧w=w':=by
 have rS:=h.sys
 clear h
 by_cases h0:k<0
 ·have t1:decide (0≤k)=false:=by simp;omega
  rw [show inB k c.li=false by unfold inB;rw [t1];rfl]
  clear h0
  go_enter Tryz.func76,Tryz.ntmps76
  exact Tz44
 ·have t1:decide (0≤k)=true:=by simp;omega
  rw [show inB k c.li=decide (k<c.li) by unfold inB;rw [t1];rfl]
  clear h0
  go_enter Tryz.func76,Tryz.ntmps76
  exact Tz44
theorem Xb (k:Int) (v:Bool) (hv:inB k c.li=v) (w:World) (h:Msd W w c z L en es xs):Calls Tryz.prog 76 #[.pointer (some ⟨z.sy,0,none⟩),.int .i64 k] w fun e w'=>e=.returned (.bool v)∧w=w':=hv▸isline_any k w h
end
end
section
attribute [local go_sem ↓] Xg Yh Yi Y8
attribute [local simp] Xg
theorem Jr {L:List (Po×Pt)} {i:Nat} {y:Po×Pt} (hy:L[i]? =some y) (o:Nat) (ho:o<7):(sq penc L [])[i*7+o]? =(penc y)[o]?:=YC Qfu hy [] o ho
section
variable {W w:World} {c:Cg} {z:Lay} {L:List (Po×Pt)} {en:List En} {es:List Ent} {xs:List Int} (h:Msd W w c z L en es xs)
include h
theorem Msd.inf {i:Nat} {y:Po×Pt} (hy:L[i]? =some y) {k:Nat} (hk:k=z.po∨k∈y.1.foot z.po):k∈z.all L:=by
 rcases hk with h1|h1
 ·exact Lay.inB (Lay.beB (by simp [h1]))
 ·exact (h.own hy k h1).2.2
theorem Msd.ub_up {i:Nat} {p:Po} {x:Pt} (hy:L[i]? =some (p,x)):p.ub∈z.all L:=by
 by_cases hb:p.ub=z.po
 ·rw [hb];exact h.inf hy (.inl rfl)
 ·exact h.inf hy (.inr (by simp [Po.foot,ZX,hb]))
theorem Msd.send_up (hT:Tab W) {i:Nat} {p:Po} {x:Pt} (hy:L[i]? =some (p,x)) (B:Option Addr) (n nc:Nat) (ms:List Ms) (hn:n=ms.length) (hS:Sl w 12 B n (cat Ms.enc ms)) (hA:∀a,B=some a→a.block∉z.all L) (hl:x.up.length+n≤1000) (hm:∀m∈ms,mg m=true):
 Calls Tryz.prog 82 #[.pointer (some ⟨z.po,i*7+1,none⟩),.slice B n nc] w fun e w'=>e=.returned (.tuple #[])∧∃p',p'.g=p.g∧MTo W w c z L z (L.set i (p',{x with up:=x.up++ms})) en es xs w':=by
 have hk:=h.ok _ (List.mem_of_getElem? hy)
 have hub:=h.ub_up hy
 have hpo:=h.inf hy (.inl rfl)
 refine (zsend_ok 139 (sq penc L []) z.po (i*7+1) p.ub p.uA p.uc x.up B n nc ms w h.ports (Jr hy 1 (by decide)) (Jr hy 2 (by decide)) hl hk.2.1 (hT.keep h.chg (by simp)) ?_ hn hS ?_ hm).mono (fun e w' hq=>h.queue_up hy hq)
 ·have h1:=hT.old.lt
  have h2:=h.new _ hub
  have h3:=h.new _ hpo
  simp;omega
 ·intro a ha
  have:=hA a ha
  exact Tz120
theorem Msd.head_up {i:Nat} {p:Po} {x:Pt} (hy:L[i]? =some (p,x)) (hl:x.up.length≤1000):
 Calls Tryz.prog 89 #[.pointer (some ⟨z.po,i*7+1,none⟩)] w fun e w'=>e=.returned (.tuple #[.agg (msc (Qfl x.up)),.bool (Qb5 x.up)])∧Chg [] w w':=by
 have hk:=h.ok _ (List.mem_of_getElem? hy)
 exact zhead_ok 139 (sq penc L []) z.po (i*7+1) p.ub p.uA p.uc x.up w h.ports (Jr hy 1 (by decide)) (Jr hy 2 (by decide)) hl hk.2.1
theorem Msd.pop_up {i:Nat} {p:Po} {x:Pt} (hy:L[i]? =some (p,x)) (hl:x.up.length≤1000):
 Calls Tryz.prog 92 #[.pointer (some ⟨z.po,i*7+1,none⟩)] w fun e w'=>e=.returned (.tuple #[.agg (msc (Qfl x.up)),.bool (Qb5 x.up)])∧∃p',p'.g=p.g∧MTo W w c z L z (L.set i (p',{x with up:=x.up.tail})) en es xs w':=by
 have hk:=h.ok _ (List.mem_of_getElem? hy)
 exact (zpop_ok 139 (sq penc L []) z.po (i*7+1) p.ub p.uA p.uc x.up w h.ports (Jr hy 1 (by decide)) (Jr hy 2 (by decide)) hl hk.2.1).mono (fun e w' hq=>h.queue_up hy hq)
theorem Msd.all_up {i:Nat} {p:Po} {x:Pt} (hy:L[i]? =some (p,x)) (hl:x.up.length≤1000):
 Calls Tryz.prog 80 #[.pointer (some ⟨z.po,i*7+1,none⟩)] w fun e w'=>∃A' c',e=.returned (.slice A' x.up.length c')∧Sl w' 12 A' x.up.length (cat Ms.enc x.up)∧Chg [] w w':=by
 have hk:=h.ok _ (List.mem_of_getElem? hy)
 exact zall_ok 139 (sq penc L []) z.po (i*7+1) p.ub p.uA p.uc x.up w h.ports (Jr hy 1 (by decide)) (Jr hy 2 (by decide)) hl hk.2.1
theorem Msd.ub_an {i:Nat} {p:Po} {x:Pt} (hy:L[i]? =some (p,x)):p.nb∈z.all L:=by
 by_cases hb:p.nb=z.po
 ·rw [hb];exact h.inf hy (.inl rfl)
 ·exact h.inf hy (.inr (by simp [Po.foot,ZX,hb]))
theorem Msd.send_an (hT:Tab W) {i:Nat} {p:Po} {x:Pt} (hy:L[i]? =some (p,x)) (B:Option Addr) (n nc:Nat) (ms:List Ms) (hn:n=ms.length) (hS:Sl w 12 B n (cat Ms.enc ms)) (hA:∀a,B=some a→a.block∉z.all L) (hl:x.an.length+n≤1000) (hm:∀m∈ms,mg m=true):
 Calls Tryz.prog 82 #[.pointer (some ⟨z.po,i*7+3,none⟩),.slice B n nc] w fun e w'=>e=.returned (.tuple #[])∧∃p',p'.g=p.g∧MTo W w c z L z (L.set i (p',{x with an:=x.an++ms})) en es xs w':=by
 have hk:=h.ok _ (List.mem_of_getElem? hy)
 have hub:=h.ub_an hy
 have hpo:=h.inf hy (.inl rfl)
 refine (zsend_ok 139 (sq penc L []) z.po (i*7+3) p.nb p.nA p.nc x.an B n nc ms w h.ports (Jr hy 3 (by decide)) (Jr hy 4 (by decide)) hl hk.2.2.1 (hT.keep h.chg (by simp)) ?_ hn hS ?_ hm).mono (fun e w' hq=>h.queue_an hy hq)
 ·have h1:=hT.old.lt
  have h2:=h.new _ hub
  have h3:=h.new _ hpo
  simp;omega
 ·intro a ha
  have:=hA a ha
  exact Tz120
theorem Msd.pop_an {i:Nat} {p:Po} {x:Pt} (hy:L[i]? =some (p,x)) (hl:x.an.length≤1000):
 Calls Tryz.prog 92 #[.pointer (some ⟨z.po,i*7+3,none⟩)] w fun e w'=>e=.returned (.tuple #[.agg (msc (Qfl x.an)),.bool (Qb5 x.an)])∧∃p',p'.g=p.g∧MTo W w c z L z (L.set i (p',{x with an:=x.an.tail})) en es xs w':=by
 have hk:=h.ok _ (List.mem_of_getElem? hy)
 exact (zpop_ok 139 (sq penc L []) z.po (i*7+3) p.nb p.nA p.nc x.an w h.ports (Jr hy 3 (by decide)) (Jr hy 4 (by decide)) hl hk.2.2.1).mono (fun e w' hq=>h.queue_an hy hq)
theorem Msd.all_an {i:Nat} {p:Po} {x:Pt} (hy:L[i]? =some (p,x)) (hl:x.an.length≤1000):
 Calls Tryz.prog 80 #[.pointer (some ⟨z.po,i*7+3,none⟩)] w fun e w'=>∃A' c',e=.returned (.slice A' x.an.length c')∧Sl w' 12 A' x.an.length (cat Ms.enc x.an)∧Chg [] w w':=by
 have hk:=h.ok _ (List.mem_of_getElem? hy)
 exact zall_ok 139 (sq penc L []) z.po (i*7+3) p.nb p.nA p.nc x.an w h.ports (Jr hy 3 (by decide)) (Jr hy 4 (by decide)) hl hk.2.2.1
theorem Msd.ub_dn {i:Nat} {p:Po} {x:Pt} (hy:L[i]? =some (p,x)):p.db∈z.all L:=by
 by_cases hb:p.db=z.po
 ·rw [hb];exact h.inf hy (.inl rfl)
 ·exact h.inf hy (.inr (by simp [Po.foot,ZX,hb]))
theorem Msd.send_dn (hT:Tab W) {i:Nat} {p:Po} {x:Pt} (hy:L[i]? =some (p,x)) (B:Option Addr) (n nc:Nat) (ms:List Ms) (hn:n=ms.length) (hS:Sl w 12 B n (cat Ms.enc ms)) (hA:∀a,B=some a→a.block∉z.all L) (hl:x.dn.length+n≤1000) (hm:∀m∈ms,mg m=true):
 Calls Tryz.prog 82 #[.pointer (some ⟨z.po,i*7+5,none⟩),.slice B n nc] w fun e w'=>e=.returned (.tuple #[])∧∃p',p'.g=p.g∧MTo W w c z L z (L.set i (p',{x with dn:=x.dn++ms})) en es xs w':=by
 have hk:=h.ok _ (List.mem_of_getElem? hy)
 have hub:=h.ub_dn hy
 have hpo:=h.inf hy (.inl rfl)
 refine (zsend_ok 139 (sq penc L []) z.po (i*7+5) p.db p.dA p.dc x.dn B n nc ms w h.ports (Jr hy 5 (by decide)) (Jr hy 6 (by decide)) hl hk.2.2.2 (hT.keep h.chg (by simp)) ?_ hn hS ?_ hm).mono (fun e w' hq=>h.queue_dn hy hq)
 ·have h1:=hT.old.lt
  have h2:=h.new _ hub
  have h3:=h.new _ hpo
  simp;omega
 ·intro a ha
  have:=hA a ha
  exact Tz120
theorem Msd.pop_dn {i:Nat} {p:Po} {x:Pt} (hy:L[i]? =some (p,x)) (hl:x.dn.length≤1000):
 Calls Tryz.prog 92 #[.pointer (some ⟨z.po,i*7+5,none⟩)] w fun e w'=>e=.returned (.tuple #[.agg (msc (Qfl x.dn)),.bool (Qb5 x.dn)])∧∃p',p'.g=p.g∧MTo W w c z L z (L.set i (p',{x with dn:=x.dn.tail})) en es xs w':=by
 have hk:=h.ok _ (List.mem_of_getElem? hy)
 exact (zpop_ok 139 (sq penc L []) z.po (i*7+5) p.db p.dA p.dc x.dn w h.ports (Jr hy 5 (by decide)) (Jr hy 6 (by decide)) hl hk.2.2.2).mono (fun e w' hq=>h.queue_dn hy hq)
theorem Msd.all_dn {i:Nat} {p:Po} {x:Pt} (hy:L[i]? =some (p,x)) (hl:x.dn.length≤1000):
 Calls Tryz.prog 80 #[.pointer (some ⟨z.po,i*7+5,none⟩)] w fun e w'=>∃A' c',e=.returned (.slice A' x.dn.length c')∧Sl w' 12 A' x.dn.length (cat Ms.enc x.dn)∧Chg [] w w':=by
 have hk:=h.ok _ (List.mem_of_getElem? hy)
 exact zall_ok 139 (sq penc L []) z.po (i*7+5) p.db p.dA p.dc x.dn w h.ports (Jr hy 5 (by decide)) (Jr hy 6 (by decide)) hl hk.2.2.2
theorem Msd.ask_up (hT:Tab W) {i:Nat} {p:Po} {x:Pt} (hy:L[i]? =some (p,x)) (m:Ms) (hl:x.up.length<1000) (hm:mg m=true):
 Calls Tryz.prog 83 #[.pointer (some ⟨z.po,i*7+1,none⟩),.agg (msc m)] w fun e w'=>e=.returned (.int .i64 0)∧∃p',p'.g=p.g∧MTo W w c z L z (L.set i (p',{x with up:=x.up++[m]})) en es xs w':=by
 have hk:=h.ok _ (List.mem_of_getElem? hy)
 exact (zask_ok 139 (sq penc L []) z.po (i*7+1) p.ub p.uA p.uc x.up m w h.ports (Jr hy 1 (by decide)) (Jr hy 2 (by decide)) hl hk.2.1 (hT.keep h.chg (by simp)) hm).mono (fun e w' hq=>h.queue_up hy hq)
end
end
section
attribute [local go_sem ↓] Xg Yh Yi Y8
attribute [local simp] Xg
theorem feet_set {po:Nat} {L:List (Po×Pt)} {i:Nat} {y y':Po×Pt} (hy:L[i]? =some y) (he:y'.1=y.1):feet po (L.set i y')=feet po L:=by
 unfold feet
 congr 1
 apply List.ext_getElem?
 intro j
 rw [List.getElem?_map,List.getElem?_map,List.getElem?_set]
 split
 ·rename_i e
  subst e
  rw [hy,if_pos (Vg hy).1]
  simp [he]
 ·rfl
theorem all_set {z:Lay} {L:List (Po×Pt)} {i:Nat} {y y':Po×Pt} (hy:L[i]? =some y) (he:y'.1=y.1):z.all (L.set i y')=z.all L:=by unfold Lay.all;rw [feet_set hy he]
theorem set_at {α:Type} {L:List α} {i:Nat} {y y':α} (hy:L[i]? =some y):(L.set i y')[i]? =some y':=by
 rw [List.getElem?_set_self (Vg hy).1]
theorem pcell0 {L:List (Po×Pt)} {i:Nat} {y:Po×Pt} (hy:L[i]? =some y):(sq penc L [])[i*7]? =some (.pointer (some ⟨y.1.g,0,none⟩)):=Jr hy 0 (by decide)
section
variable {W:World} {c:Cg} {z:Lay} {L:List (Po×Pt)} {en:List En} {es:List Ent} {xs:List Int}
theorem Msd.asks {w w2:World} (h:Msd W w c z L en es xs) (hT:Tab W) {i:Nat} {p:Po} {x:Pt} (hy:L[i]? =some (p,x)) {s:Sta} {A:Option Addr} {nc:Nat} {ms:List Ms} (hq:x.up.length<1000) (h1:ms.length≤1) (hm:∀m∈ms,mg m=true) (h2:Told w w2 A ms) (h3:Agt W w2 p.g p.a p.b c.se c.wa s) (h4:Chg [p.a,p.b] w w2):
 Calls Tryz.prog 82 #[.pointer (some ⟨z.po,i*7+1,none⟩),.slice A ms.length nc] w2 fun e w'=>e=.returned (.tuple #[])∧∃p',p'.g=p.g∧MTo W w c z L z (L.set i (p',{x with s:=s,up:=x.up++ms})) en es xs w':=by
 have M2:=h.agent hy h3 h4
 have hold:=h.old
 refine (M2.1.send_up hT (set_at hy) A _ nc ms rfl h2.1 ?_ (by show x.up.length+ms.length≤1000;omega) hm).mono ?_
 ·intro a ha hk
  rw [all_set (y':=(p,{x with s:=s})) hy rfl] at hk
  have:=hold _ hk
  have:=h2.2 a ha
  omega
 ·rintro e w' ⟨he,p',hg,M3⟩
  refine ⟨he,p',hg,M2.trans ?_⟩
  rw [List.set_set] at M3
  exact M3
theorem zload_ok (i:Nat) (li k:Int) (p:Po) (x:Pt) (w:World) (h:Msd W w c z L en es xs) (hT:Tab W) (hy:L[i]? =some (p,x)) (hl:inB li c.li=true) (hu:x.s.2≤1000000000) (hq:x.up.length<1000) (hm:∀m∈(loadF c.se c.wa x.s li k).2.2.2,mg m=true) (h1:(loadF c.se c.wa x.s li k).2.2.2.length≤1):
 Calls Tryz.prog 28 #[.pointer (some ⟨z.sy,0,none⟩),.int .i64 i,.int .i64 li,.int .i64 k] w fun e w'=>e=.returned (.tuple #[.int .u64 (loadF c.se c.wa x.s li k).2.1,.bool (loadF c.se c.wa x.s li k).2.2.1])∧
  ∃p',MTo W w c z L z (L.set i (p',{x with s:=(loadF c.se c.wa x.s li k).1,up:=x.up++(loadF c.se c.wa x.s li k).2.2.2})) en es xs w':=by
 have hi:i<c.co:=by rw [←h.cores];exact (Vg hy).1
 have hk:=h.ok _ (List.mem_of_getElem? hy)
 have HG:=Vh (gload_any li k w hk.1 hu)
 generalize loadF c.se c.wa x.s li k=r at HG hm h1 ⊢
 have rS:=h.sys
 have rP:=h.ports
 have c0:(sq penc L [])[i*7]? =some (.pointer (some ⟨p.g,0,none⟩)):=Jr hy 0 (by decide)
 have HH:=Vh h
 have HY:=Vh hy
 have HL:=Vh hl
 have HQ:=Vh hq
 have HM:=Vh hm
 have H1:=Vh h1
 have HT:=Vh hT
 have HI:=Vh hi
 clear h hy hl hq hm h1 hT hk hu hi
 go_enter Tryz.func28,Tryz.ntmps28
 try dsimp only [List.append]
 go_wp2_with (first |(go_at_call 74;refine (Yq i _ HH.out HI.out).mono ?_;rintro e w' ⟨rfl,rfl⟩)|(go_at_call 76;refine (Xb li true HL.out _ HH.out).mono ?_;rintro e w' ⟨rfl,rfl⟩))
 refine HG.out.mono ?_
 rintro e w2 ⟨A,n,rfl,h2,h3,h4⟩
 have HS:=Vh (HH.out.asks (nc:=n) HT.out HY.out HQ.out H1.out HM.out h2 h3 h4)
 clear h2 h3 h4 rS rP c0
 go_wp2_with fail
 refine HS.out.mono ?_
 rintro e w3 ⟨rfl,p',_,M⟩
 have HN:=Vh M
 clear M
 go_wp2_with fail
 go_ret2
 exact ⟨rfl,p',HN.out⟩
theorem zstore_ok (i:Nat) (li k v:Int) (p:Po) (x:Pt) (w:World) (h:Msd W w c z L en es xs) (hT:Tab W) (hy:L[i]? =some (p,x)) (hl:inB li c.li=true) (hu:x.s.2≤1000000000) (hq:x.up.length<1000) (hm:∀m∈(storeF c.se c.wa x.s li k v).2.2,mg m=true) (h1:(storeF c.se c.wa x.s li k v).2.2.length≤1):
 Calls Tryz.prog 34 #[.pointer (some ⟨z.sy,0,none⟩),.int .i64 i,.int .i64 li,.int .i64 k,.int .u64 v] w fun e w'=>e=.returned (.bool (storeF c.se c.wa x.s li k v).2.1)∧
  ∃p',MTo W w c z L z (L.set i (p',{x with s:=(storeF c.se c.wa x.s li k v).1,up:=x.up++(storeF c.se c.wa x.s li k v).2.2})) en es xs w':=by
 have hi:i<c.co:=by rw [←h.cores];exact (Vg hy).1
 have hk:=h.ok _ (List.mem_of_getElem? hy)
 have HG:=Vh (gstore_any li k v w hk.1 hu)
 generalize storeF c.se c.wa x.s li k v=r at HG hm h1 ⊢
 have rS:=h.sys
 have rP:=h.ports
 have c0:(sq penc L [])[i*7]? =some (.pointer (some ⟨p.g,0,none⟩)):=Jr hy 0 (by decide)
 have HH:=Vh h
 have HY:=Vh hy
 have HL:=Vh hl
 have HQ:=Vh hq
 have HM:=Vh hm
 have H1:=Vh h1
 have HT:=Vh hT
 have HI:=Vh hi
 clear h hy hl hq hm h1 hT hk hu hi
 go_enter Tryz.func34,Tryz.ntmps34
 exact Tz56
theorem zevict_ok (i:Nat) (li:Int) (p:Po) (x:Pt) (w:World) (h:Msd W w c z L en es xs) (hT:Tab W) (hy:L[i]? =some (p,x)) (hl:inB li c.li=true) (hu:x.s.2≤1000000000) (hq:x.up.length<1000) (hm:∀m∈(evictF c.se c.wa x.s li).2.1,mg m=true) (h1:(evictF c.se c.wa x.s li).2.1.length≤1):
 Calls Tryz.prog 32 #[.pointer (some ⟨z.sy,0,none⟩),.int .i64 i,.int .i64 li] w fun e w'=>e=.returned (.int .i64 (evictF c.se c.wa x.s li).2.2)∧
  ∃p',MTo W w c z L z (L.set i (p',{x with s:=(evictF c.se c.wa x.s li).1,up:=x.up++(evictF c.se c.wa x.s li).2.1})) en es xs w':=by
 have hi:i<c.co:=by rw [←h.cores];exact (Vg hy).1
 have hk:=h.ok _ (List.mem_of_getElem? hy)
 have HG:=Vh (gevict_any li w hk.1 hu)
 generalize evictF c.se c.wa x.s li=r at HG hm h1 ⊢
 have rS:=h.sys
 have rP:=h.ports
 have c0:(sq penc L [])[i*7]? =some (.pointer (some ⟨p.g,0,none⟩)):=Jr hy 0 (by decide)
 have HH:=Vh h
 have HY:=Vh hy
 have HL:=Vh hl
 have HQ:=Vh hq
 have HM:=Vh hm
 have H1:=Vh h1
 have HT:=Vh hT
 have HI:=Vh hi
 clear h hy hl hq hm h1 hT hk hu hi
 go_enter Tryz.func32,Tryz.ntmps32
 exact Tz56
theorem zreach_own (i:Nat) (li:Int) (p:Po) (x:Pt) (w:World) (h:Msd W w c z L en es xs) (hy:L[i]? =some (p,x)) (hl:inB li c.li=true) (ho:JN x.s.1 li=true):
 Calls Tryz.prog 49 #[.pointer (some ⟨z.sy,0,none⟩),.int .i64 i,.int .i64 li] w fun e w'=>e=.returned (.bool true)∧Chg [] w w':=by
 have hi:i<c.co:=by rw [←h.cores];exact (Vg hy).1
 have hk:=h.ok _ (List.mem_of_getElem? hy)
 have HG:=Vh (Qcx li true ho w hk.1)
 have rS:=h.sys
 have rP:=h.ports
 have c0:(sq penc L [])[i*7]? =some (.pointer (some ⟨p.g,0,none⟩)):=Jr hy 0 (by decide)
 have HH:=Vh h
 have HL:=Vh hl
 have HI:=Vh hi
 clear h hy hl hk hi ho
 go_enter Tryz.func49,Tryz.ntmps49
 try dsimp only [List.append]
 go_wp2_with (first |(go_at_call 74;refine (Yq i _ HH.out HI.out).mono ?_;rintro e w' ⟨rfl,rfl⟩)|(go_at_call 76;refine (Xb li true HL.out _ HH.out).mono ?_;rintro e w' ⟨rfl,rfl⟩))
 refine HG.out.mono ?_
 rintro e w2 ⟨rfl,h2⟩
 have HC:=Vh h2
 clear h2
 go_wp2_with fail
 go_ret
 exact ⟨rfl,HC.out⟩
theorem zreach_ok (i:Nat) (li:Int) (p:Po) (x:Pt) (w:World) (h:Msd W w c z L en es xs) (hT:Tab W) (hy:L[i]? =some (p,x)) (hl:inB li c.li=true) (ho:JN x.s.1 li=false) (hu:x.s.2≤1000000000) (hq:x.up.length<1000) (hm:∀m∈(reachF c.se c.wa x.s li).2,mg m=true) (h1:(reachF c.se c.wa x.s li).2.length≤1):
 Calls Tryz.prog 49 #[.pointer (some ⟨z.sy,0,none⟩),.int .i64 i,.int .i64 li] w fun e w'=>e=.returned (.bool false)∧
  ∃p',MTo W w c z L z (L.set i (p',{x with s:=(reachF c.se c.wa x.s li).1,up:=x.up++(reachF c.se c.wa x.s li).2})) en es xs w':=by
 have hi:i<c.co:=by rw [←h.cores];exact (Vg hy).1
 have hk:=h.ok _ (List.mem_of_getElem? hy)
 have HO:=Vh (Qcx li false ho w hk.1)
 have hg:∀w1,Chg [] w w1→Calls Tryz.prog 104 #[.pointer (some ⟨p.g,0,none⟩),.int .i64 li] w1 (AgRet W w1 p.g p.a p.b c.se c.wa (reachF c.se c.wa x.s li).1 (fun v=>v) (reachF c.se c.wa x.s li).2):=fun w1 c1=>greach_any li w1 (hk.1.keep c1) hu
 generalize reachF c.se c.wa x.s li=r at hg hm h1 ⊢
 have HG:=Vh hg
 have rS:=h.sys
 have rP:=h.ports
 have c0:(sq penc L [])[i*7]? =some (.pointer (some ⟨p.g,0,none⟩)):=Jr hy 0 (by decide)
 have HH:=Vh h
 have HY:=Vh hy
 have HL:=Vh hl
 have HQ:=Vh hq
 have HM:=Vh hm
 have H1:=Vh h1
 have HT:=Vh hT
 have HI:=Vh hi
 have NP:=Vh (show z.po∉[p.a,p.b] from fun hp=>by
  have:z.po∈p.foot z.po:=by
   unfold Po.foot
   simp only [List.mem_cons,Vn,or_false] at hp
   rcases hp with h5|h5<;>simp [←h5]
  exact (h.own hy _ this).1 (Lay.beB (by simp)))
 clear h hy hl hq hm h1 hT hk hu hi hg ho
 go_enter Tryz.func49,Tryz.ntmps49
 try dsimp only [List.append]
 go_wp2_with (first |(go_at_call 74;refine (Yq i _ HH.out HI.out).mono ?_;rintro e w' ⟨rfl,rfl⟩)|(go_at_call 76;refine (Xb li true HL.out _ HH.out).mono ?_;rintro e w' ⟨rfl,rfl⟩))
 refine HO.out.mono ?_
 rintro e w2 ⟨rfl,c2⟩
 replace rS:=c2.keep rS Vn
 replace rP:=c2.keep rP Vn
 have HC:=Vh c2
 clear c2
 go_wp2_with fail
 have s0:Qbs (w2.heap[z.po]?) (i*7)=some (.pointer (some ⟨p.g,0,none⟩)):=by rw [rP,Qc];exact c0
 have HR:=Vh rP
 have HC0:=Vh c0
 clear rP c0
 go_region_held3 (fun w'=>Qbs (w'.heap[z.po]?) (i*7)=some (.pointer (some ⟨p.g,0,none⟩)))
  (first |(rw [M.1.ports,Qc,pcell0 (set_at HY.out)];dsimp only;rw [hg'])|(rw [h4.keep HR.out NP.out,Qc];exact HC0.out)|exact s0)
  (first
   |(go_at_call 104;refine (HG.out _ (HC.out.trans (Chg.refl [] w2).drew)).mono ?_;rintro e w' ⟨A,n,rfl,h2,h3,h4⟩)
   |(go_at_call 82;refine ((HH.out.keep (HC.out.trans (Chg.refl [] w2).drew)).asks (nc:=n) HT.out HY.out HQ.out H1.out HM.out h2 h3 h4).mono ?_;rintro e w' ⟨rfl,p',hg',M⟩))
 all_goals
  have HN:=Vh ((HH.out.stay (HC.out.trans (Chg.refl [] w2).drew)).trans M)
  clear M h2 h3 h4 s0
  go_wp2_with fail
  go_ret
  exact ⟨rfl,p',HN.out⟩
end
end
section
attribute [local go_sem ↓] Xg Yh Yi Y8
attribute [local simp] Xg
section
variable {W:World} {c:Cg} {z:Lay} {L:List (Po×Pt)} {en:List En} {es:List Ent} {xs:List Int}
theorem zload_no (k:Int) (li:Int) (wd:Int) (w:World) (h:Msd W w c z L en es xs) (hk:inB k c.co=false):Calls Tryz.prog 28 #[.pointer (some ⟨z.sy,0,none⟩),.int .i64 k,.int .i64 li,.int .i64 wd] w fun e w'=>e=.returned (.tuple #[.int .u64 0,.bool false])∧w=w':=by
 have HH:=Vh h
 have HK:=Vh hk
 clear h hk
 go_enter Tryz.func28,Tryz.ntmps28
 try dsimp only [List.append]
 go_wp2_with (first |(go_at_call 74;refine (Qce k _ HH.out HK.out).mono ?_;rintro e w' ⟨rfl,rfl⟩))
 go_ret2
 exact ⟨rfl,rfl⟩
theorem zload_off (i:Nat) (li:Int) (wd:Int) (w:World) (h:Msd W w c z L en es xs) (hi:i<c.co) (hl:inB li c.li=false):Calls Tryz.prog 28 #[.pointer (some ⟨z.sy,0,none⟩),.int .i64 i,.int .i64 li,.int .i64 wd] w fun e w'=>e=.returned (.tuple #[.int .u64 0,.bool false])∧w=w':=by
 have HH:=Vh h
 have HI:=Vh hi
 have HL:=Vh hl
 clear h hi hl
 go_enter Tryz.func28,Tryz.ntmps28
 try dsimp only [List.append]
 go_wp2_with (first |(go_at_call 74;refine (Yq i _ HH.out HI.out).mono ?_;rintro e w' ⟨rfl,rfl⟩)|(go_at_call 76;refine (Xb li false HL.out _ HH.out).mono ?_;rintro e w' ⟨rfl,rfl⟩))
 go_ret2
 exact ⟨rfl,rfl⟩
theorem zstore_no (k:Int) (li:Int) (wd v:Int) (w:World) (h:Msd W w c z L en es xs) (hk:inB k c.co=false):Calls Tryz.prog 34 #[.pointer (some ⟨z.sy,0,none⟩),.int .i64 k,.int .i64 li,.int .i64 wd,.int .u64 v] w fun e w'=>e=.returned (.bool false)∧w=w':=by
 have HH:=Vh h
 have HK:=Vh hk
 clear h hk
 go_enter Tryz.func34,Tryz.ntmps34
 exact Tz41
theorem zstore_off (i:Nat) (li:Int) (wd v:Int) (w:World) (h:Msd W w c z L en es xs) (hi:i<c.co) (hl:inB li c.li=false):Calls Tryz.prog 34 #[.pointer (some ⟨z.sy,0,none⟩),.int .i64 i,.int .i64 li,.int .i64 wd,.int .u64 v] w fun e w'=>e=.returned (.bool false)∧w=w':=by
 have HH:=Vh h
 have HI:=Vh hi
 have HL:=Vh hl
 clear h hi hl
 go_enter Tryz.func34,Tryz.ntmps34
 exact Tz42
theorem zreach_no (k:Int) (li:Int) (w:World) (h:Msd W w c z L en es xs) (hk:inB k c.co=false):Calls Tryz.prog 49 #[.pointer (some ⟨z.sy,0,none⟩),.int .i64 k,.int .i64 li] w fun e w'=>e=.returned (.bool false)∧w=w':=by
 have HH:=Vh h
 have HK:=Vh hk
 clear h hk
 go_enter Tryz.func49,Tryz.ntmps49
 exact Tz41
theorem zreach_off (i:Nat) (li:Int) (w:World) (h:Msd W w c z L en es xs) (hi:i<c.co) (hl:inB li c.li=false):Calls Tryz.prog 49 #[.pointer (some ⟨z.sy,0,none⟩),.int .i64 i,.int .i64 li] w fun e w'=>e=.returned (.bool false)∧w=w':=by
 have HH:=Vh h
 have HI:=Vh hi
 have HL:=Vh hl
 clear h hi hl
 go_enter Tryz.func49,Tryz.ntmps49
 exact Tz42
theorem zevict_no (k:Int) (li:Int) (w:World) (h:Msd W w c z L en es xs) (hk:inB k c.co=false):Calls Tryz.prog 32 #[.pointer (some ⟨z.sy,0,none⟩),.int .i64 k,.int .i64 li] w fun e w'=>e=.returned (.int .i64 1)∧w=w':=by
 have HH:=Vh h
 have HK:=Vh hk
 clear h hk
 go_enter Tryz.func32,Tryz.ntmps32
 exact Tz41
theorem zevict_off (i:Nat) (li:Int) (w:World) (h:Msd W w c z L en es xs) (hi:i<c.co) (hl:inB li c.li=false):Calls Tryz.prog 32 #[.pointer (some ⟨z.sy,0,none⟩),.int .i64 i,.int .i64 li] w fun e w'=>e=.returned (.int .i64 1)∧w=w':=by
 have HH:=Vh h
 have HI:=Vh hi
 have HL:=Vh hl
 clear h hi hl
 go_enter Tryz.func32,Tryz.ntmps32
 exact Tz42
theorem zflush_no (k:Int) (li:Int) (kd:Int) (w:World) (h:Msd W w c z L en es xs) (hk:inB k c.co=false):Calls Tryz.prog 30 #[.pointer (some ⟨z.sy,0,none⟩),.int .i64 k,.int .i64 li,.int .i64 kd] w fun e w'=>e=.returned (.int .i64 1)∧w=w':=by
 have HH:=Vh h
 have HK:=Vh hk
 clear h hk
 go_enter Tryz.func30,Tryz.ntmps30
 exact Tz41
theorem zflush_off (i:Nat) (li:Int) (kd:Int) (w:World) (h:Msd W w c z L en es xs) (hi:i<c.co) (hl:inB li c.li=false):Calls Tryz.prog 30 #[.pointer (some ⟨z.sy,0,none⟩),.int .i64 i,.int .i64 li,.int .i64 kd] w fun e w'=>e=.returned (.int .i64 1)∧w=w':=by
 have HH:=Vh h
 have HI:=Vh hi
 have HL:=Vh hl
 clear h hi hl
 go_enter Tryz.func30,Tryz.ntmps30
 exact Tz42
theorem zup_no (k:Int) (w:World) (h:Msd W w c z L en es xs) (hk:inB k c.co=false):Calls Tryz.prog 35 #[.pointer (some ⟨z.sy,0,none⟩),.int .i64 k] w fun e w'=>e=.returned (.int .i64 1)∧w=w':=by
 have HH:=Vh h
 have HK:=Vh hk
 clear h hk
 go_enter Tryz.func35,Tryz.ntmps35
 exact Tz41
theorem zanswer_no (k:Int) (w:World) (h:Msd W w c z L en es xs) (hk:inB k c.co=false):Calls Tryz.prog 37 #[.pointer (some ⟨z.sy,0,none⟩),.int .i64 k] w fun e w'=>e=.returned (.int .i64 1)∧w=w':=by
 have HH:=Vh h
 have HK:=Vh hk
 clear h hk
 go_enter Tryz.func37,Tryz.ntmps37
 exact Tz41
theorem zflush_kind (i:Nat) (li kd:Int) (w:World) (h:Msd W w c z L en es xs) (hi:i<c.co) (hl:inB li c.li=true) (h4:kd≠4) (h5:kd≠5):Calls Tryz.prog 30 #[.pointer (some ⟨z.sy,0,none⟩),.int .i64 i,.int .i64 li,.int .i64 kd] w fun e w'=>e=.returned (.int .i64 1)∧w=w':=by
 have HH:=Vh h
 have HI:=Vh hi
 have HL:=Vh hl
 have t4:(kd !=4)=true:=by simpa using h4
 have t5:(kd !=5)=true:=by simpa using h5
 clear h hi hl h4 h5
 go_enter Tryz.func30,Tryz.ntmps30
 try dsimp only [List.append]
 go_wp2_with (first |(go_at_call 74;refine (Yq i _ HH.out HI.out).mono ?_;rintro e w' ⟨rfl,rfl⟩)|(go_at_call 76;refine (Xb li true HL.out _ HH.out).mono ?_;rintro e w' ⟨rfl,rfl⟩))
 go_ret
 exact ⟨rfl,rfl⟩
theorem zflush_4 (i:Nat) (li:Int) (p:Po) (x:Pt) (w:World) (h:Msd W w c z L en es xs) (hT:Tab W) (hy:L[i]? =some (p,x)) (hl:inB li c.li=true) (hq:x.up.length<1000) (hm:mg (ms4 4 li false false)=true):
 Calls Tryz.prog 30 #[.pointer (some ⟨z.sy,0,none⟩),.int .i64 i,.int .i64 li,.int .i64 4] w fun e w'=>e=.returned (.int .i64 0)∧∃p',MTo W w c z L z (L.set i (p',{x with up:=x.up++[ms4 4 li false false]})) en es xs w':=by
 have hi:i<c.co:=by rw [←h.cores];exact (Vg hy).1
 have HH:=Vh h
 have HI:=Vh hi
 have HL:=Vh hl
 have HA:=Vh (fun w1 (c1:Chg [] w w1)=>(h.keep c1).ask_up hT hy (ms4 4 li false false) hq hm)
 exact Tz68
theorem zflush_5 (i:Nat) (li:Int) (p:Po) (x:Pt) (w:World) (h:Msd W w c z L en es xs) (hT:Tab W) (hy:L[i]? =some (p,x)) (hl:inB li c.li=true) (hq:x.up.length<1000) (hm:mg (ms4 5 li false false)=true):
 Calls Tryz.prog 30 #[.pointer (some ⟨z.sy,0,none⟩),.int .i64 i,.int .i64 li,.int .i64 5] w fun e w'=>e=.returned (.int .i64 0)∧∃p',MTo W w c z L z (L.set i (p',{x with up:=x.up++[ms4 5 li false false]})) en es xs w':=by
 have hi:i<c.co:=by rw [←h.cores];exact (Vg hy).1
 have HH:=Vh h
 have HI:=Vh hi
 have HL:=Vh hl
 have HA:=Vh (fun w1 (c1:Chg [] w w1)=>(h.keep c1).ask_up hT hy (ms4 5 li false false) hq hm)
 exact Tz68
end
end
end Go.Proofs.YtadeoflkppiflaaGreatDoor
