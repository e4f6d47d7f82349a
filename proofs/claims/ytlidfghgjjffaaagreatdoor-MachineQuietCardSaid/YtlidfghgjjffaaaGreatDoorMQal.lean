/- Texts of the walk, one behind the other: Sbm Evt Alu Alub Sba Sbb. No condition. -/
import Derived.Test.YtlidfghgjjffaaaGreatDoorMQaa
import Derived.Test.YtlidfghgjjffaaaGreatDoorMQab
import Derived.BigQuiet
import Derived.Deep.QuietTactic
import Derived.Deep.RegionHeld3
import Derived.Deep.RegionLaw
import Derived.Deep.RegionWith
import Derived.Lib.Hide
import Derived.Maps.OwnOps
import Derived.Test.YtlidfghgjjffaaaGreatDoorChecked
import Derived.WalkKit
namespace Go.Proofs.YtlidfghgjjffaaaGreatDoor
open Go.RowKit
set_option linter.unusedVariables false
set_option maxHeartbeats 1000000
section
structure Se where
 kd:Int
 li:Int
 wo:Int
 va:Int
 sn:Bool
deriving DecidableEq
def Se.enc (e:Se):List Value:=[.int .i64 e.kd,.int .i64 e.li,.int .i64 e.wo,.int .u64 e.va,.bool e.sn]
theorem Se.len (e:Se):(Se.enc e).length=5:=rfl
theorem Se.one (e:Se):∀v∈Se.enc e,v.oneCell'=true:=by
 intro v hv
 simp only [Se.enc,List.mem_cons,Vn,or_false] at hv
 rcases hv with rfl|rfl|rfl|rfl|rfl<;>rfl
def sent (e:Se):Se:={e with sn:=true}
def seZ:Se:=⟨0,0,0,0,false⟩
def sec (e:Se):Array Value:=(Se.enc e).toArray
theorem Q5 (e:Se):(sec e).size=5:=by simp [sec,Se.enc]
theorem Xm (e:Se):Qab (sec e):=Qp _ (List.all_eq_true.2 (Se.one e))
theorem X1 (e:Se):(sec e)[0]? =some (.int .i64 e.kd):=rfl
theorem X0 (e:Se):(sec e)[1]? =some (.int .i64 e.li):=rfl
theorem XW (e:Se):(sec e)[2]? =some (.int .i64 e.wo):=rfl
theorem XX (e:Se):(sec e)[3]? =some (.int .u64 e.va):=rfl
theorem XY (e:Se):(sec e)[4]? =some (.bool e.sn):=rfl
theorem Xn (k l o v:Int) (s:Bool):(#[.int .i64 k,.int .i64 l,.int .i64 o,.int .u64 v,.bool s]:Array Value)=sec ⟨k,l,o,v,s⟩:=rfl
theorem JC:sec ⟨0,0,0,0,false⟩=sec seZ:=rfl
theorem XZ (e:Se):(sec e=#[])=False:=eq_false (fun h=>by have:=congrArg Array.size h;rw [Q5] at this;cases this)
theorem ZU (e:Se) (v:Int):(sec e).setIfInBounds 0 (.int .i64 v)=sec ⟨v,e.li,e.wo,e.va,e.sn⟩:=by simp [sec,Se.enc]
theorem ZT (e:Se) (v:Int):(sec e).setIfInBounds 1 (.int .i64 v)=sec ⟨e.kd,v,e.wo,e.va,e.sn⟩:=by simp [sec,Se.enc]
theorem ZS (e:Se) (v:Int):(sec e).setIfInBounds 2 (.int .i64 v)=sec ⟨e.kd,e.li,v,e.va,e.sn⟩:=by simp [sec,Se.enc]
theorem ZR (e:Se) (v:Int):(sec e).setIfInBounds 3 (.int .u64 v)=sec ⟨e.kd,e.li,e.wo,v,e.sn⟩:=by simp [sec,Se.enc]
theorem X6:seZ.kd=0:=rfl
theorem X5:seZ.li=0:=rfl
theorem X2:seZ.wo=0:=rfl
theorem X3:seZ.va=0:=rfl
theorem X4:seZ.sn=false:=rfl
theorem sec_enc (e:Se):sec e=(Se.enc e).toArray:=rfl
def sezV:Value:=.agg (sec seZ)
theorem sezV_size:sezV.cells.size=5:=rfl
theorem Qg8 {α:Type} (xs l:List α) (o j:Nat) (h:o+l.length≤xs.length):(Zz xs o l)[j]? =if j<o then xs[j]? else if j<o+l.length then l[j-o]? else xs[j]?:=by
 unfold Zz
 have e1:(xs.take o).length=o:=by simp;omega
 split
 ·rename_i h1
  rw [List.append_assoc,List.getElem?_append_left (by omega),List.getElem?_take_of_lt h1]
 ·split
  ·rename_i h1 h2
   rw [List.append_assoc,List.getElem?_append_right (by omega),e1,List.getElem?_append_left (by omega)]
  ·rename_i h1 h2
   rw [List.getElem?_append_right (by simp;omega),List.getElem?_drop]
   congr 1
   simp;omega
structure Ring where
 l:List Se
 h:l.length=16
def Ring.get (r:Ring) (p:Nat):Se:=r.l.getD p seZ
def Ring.put (r:Ring) (p:Nat) (e:Se):Ring:=⟨r.l.set p e,by rw [List.length_set];exact r.h⟩
def ringZ:Ring:=⟨List.replicate 16 seZ,rfl⟩
theorem Ring.at (r:Ring) {p:Nat} (hp:p<16):r.l[p]? =some (r.get p):=by
 have:=r.h
 unfold Ring.get
 rw [List.getElem?_eq_getElem (by omega)];simp [this,hp]
theorem Ring.put_same (r:Ring) {p:Nat} (hp:p<16) (e:Se):(r.put p e).get p=e:=by
 have:=r.h
 unfold Ring.get Ring.put
 simp [List.getD_eq_getElem?_getD,this,hp]
theorem Ring.put_other (r:Ring) {p q:Nat} (h:p≠q) (e:Se):(r.put p e).get q=r.get q:=by
 unfold Ring.get Ring.put
 simp [List.getD_eq_getElem?_getD,h]
def pl (f n:Nat):Nat:=(f+n) % 16
theorem pl_lt (f n:Nat):pl f n<16:=Nat.mod_lt _ (by omega)
theorem pl_ne {f n m:Nat} (h:n<m) (hm:m<16+n):pl f n≠pl f m:=by unfold pl;omega
theorem pl_next (f n:Nat):pl (pl f 1) n=pl f (n+1):=by unfold pl;omega
theorem fit_pl (f n:Nat):Fit (1+pl f n*5) 5 83=True:=by have:=pl_lt f n;exact eq_true (show _≤_ by omega)
def bfc (room:Int) (r:Ring) (f c:Nat):Array Value:=(.int .i64 room::(cat Se.enc r.l++[.int .i64 f,.int .i64 c])).toArray
section
variable (room:Int) (r:Ring) (f c:Nat)
theorem YW:(cat Se.enc r.l).length=80:=by rw [Q9 Se.len,r.h]
theorem Qdc:(bfc room r f c).size=83:=by simp [bfc,YW]
theorem bfc_room:(bfc room r f c)[0]? =some (.int .i64 room):=by simp [bfc]
theorem bfc_first:(bfc room r f c)[81]? =some (.int .i64 f):=by
 unfold bfc
 rw [List.getElem?_toArray,List.getElem?_cons_succ,List.getElem?_append_right (by rw [YW];omega),YW];rfl
theorem bfc_count:(bfc room r f c)[82]? =some (.int .i64 c):=by
 unfold bfc
 rw [List.getElem?_toArray,List.getElem?_cons_succ,List.getElem?_append_right (by rw [YW];omega),YW];rfl
theorem Qbj (g:Nat):(bfc room r f c).setIfInBounds 81 (.int .i64 g)=bfc room r g c:=by
 unfold bfc
 rw [List.setIfInBounds_toArray,List.set_cons_succ,List.set_append_right _ _ (by rw [YW];omega),YW];rfl
theorem Qaa (g:Nat):(bfc room r f c).setIfInBounds 82 (.int .i64 g)=bfc room r f g:=by
 unfold bfc
 rw [List.setIfInBounds_toArray,List.set_cons_succ,List.set_append_right _ _ (by rw [YW];omega),YW];rfl
theorem Qgt (t:TypeId) (n:Nat):ZX (some (.cells (bfc room r f c) t (0,0))) (1+pl f n*5) 5=true:=by
 have:=pl_lt f n
 rw [Qe,Qdc];exact decide_eq_true (show _≤_ by omega)
theorem Qf3 (t:TypeId) (g:Nat×Nat) (n:Nat):XF (some (.cells (bfc room r f c) t g)) (1+pl f n*5) 5=sec (r.get (pl f n)):=by
 have h1:=pl_lt f n
 have h2:=YW r
 rw [Xi,sec_enc]
 unfold bfc
 rw [List.toList_toArray,Nat.add_comm 1,List.drop_succ_cons,List.drop_append_of_le_length (by omega),List.take_append_of_le_length (by rw [List.length_drop];omega),YI Se.len (r.at h1)]
theorem Qfa (t:TypeId) (g:Nat×Nat) (n:Nat) (e:Se):J6 (some (.cells (bfc room r f c) t g)) (1+pl f n*5) (sec e)=some (.cells (bfc room (r.put (pl f n) e) f c) t g):=by
 have h1:=pl_lt f n
 have h2:=YW r
 rw [XD,sec_enc]
 unfold bfc Ring.put
 have e1:∀(v:Value) (l:List Value) (o:Nat),Zz (v::l) (o+1) (Se.enc e)=v::Zz l o (Se.enc e):=by
  intro v l o
  unfold Zz
  rw [List.take_succ_cons,show o+1+(Se.enc e).length=(o+(Se.enc e).length)+1 by omega,List.drop_succ_cons];rfl
 rw [List.toList_toArray,List.toList_toArray,Nat.add_comm 1,e1,Qae _ _ _ _ (by rw [h2,Se.len];omega),←Qdb (enc:=Se.enc) e,Qel Se.len]
 have h3:Zz r.l (pl f n) [e]=r.l.set (pl f n) e:=by
  have:=r.h
  have e2:r.l.set (pl f n) e=r.l.take (pl f n)++e::r.l.drop (pl f n+1):=List.set_eq_take_append_cons_drop.trans (if_pos (by omega))
  rw [e2]
  simp [Zz]
 rw [h3]
theorem Qem {n j:Nat} (hj:j<5):(bfc room r f c)[1+pl f n*5+j]? =(Se.enc (r.get (pl f n)))[j]?:=by
 have hp:=Qf3 room r f c 0 (0,0) n
 rw [Xi] at hp
 have hpl:=congrArg Array.toList hp
 rw [List.toList_toArray] at hpl
 have:=congrArg (·[j]?) hpl
 simpa [List.getElem?_take,hj,List.getElem?_drop,sec] using this
theorem bfc_kd (n:Nat):(bfc room r f c)[1+pl f n*5]? =some (.int .i64 (r.get (pl f n)).kd):=Qem room r f c (j:=0) (by omega)
theorem bfc_li (n:Nat):(bfc room r f c)[1+pl f n*5+1]? =some (.int .i64 (r.get (pl f n)).li):=Qem room r f c (by omega)
theorem bfc_wo (n:Nat):(bfc room r f c)[1+pl f n*5+2]? =some (.int .i64 (r.get (pl f n)).wo):=Qem room r f c (by omega)
theorem bfc_va (n:Nat):(bfc room r f c)[1+pl f n*5+3]? =some (.int .u64 (r.get (pl f n)).va):=Qem room r f c (by omega)
theorem bfc_sn (n:Nat):(bfc room r f c)[1+pl f n*5+4]? =some (.bool (r.get (pl f n)).sn):=Qem room r f c (by omega)
theorem Qf2 (t:TypeId) (g:Nat×Nat) (n:Nat):Qh7 (some (.cells (bfc room r f c) t g)) (1+pl f n*5+4) (.bool true)=some (.cells (bfc room (r.put (pl f n) (sent (r.get (pl f n)))) f c) t g):=by
 have h1:=pl_lt f n
 have h2:=YW r
 have h3:=Qfa room r f c t g n (sent (r.get (pl f n)))
 rw [←h3,XD,Qf]
 congr 2
 have hs:(bfc room r f c).toList.length=83:=by rw [Array.length_toList,Qdc]
 apply Array.ext_getElem?
 intro k
 rw [←Array.getElem?_toList,←Array.getElem?_toList,List.toList_toArray,Array.toList_setIfInBounds]
 rw [Qg8 _ _ _ _ (by rw [hs];show _+5≤83;omega)]
 have hc:∀j,j<5→(bfc room r f c).toList[1+pl f n*5+j]? =(Se.enc (r.get (pl f n)))[j]?:=fun j hj=>by
  rw [Array.getElem?_toList];exact Qem room r f c hj
 show _=if k<1+pl f n*5 then _ else if k<1+pl f n*5+5 then _ else _
 by_cases ha:k<1+pl f n*5
 ·rw [if_pos ha,List.getElem?_set_ne (by omega)]
 rw [if_neg ha]
 by_cases hb:k<1+pl f n*5+5
 ·rw [if_pos hb]
  obtain ⟨j,rfl⟩:∃j,k=1+pl f n*5+j:=⟨k-(1+pl f n*5),by omega⟩
  have hj:j<5:=by omega
  have hcj:=hc j hj
  rw [show 1+pl f n*5+j-(1+pl f n*5)=j by omega]
  match j,hj with
  |0,_=>rw [List.getElem?_set_ne (by omega),hcj];rfl
  |1,_=>rw [List.getElem?_set_ne (by omega),hcj];rfl
  |2,_=>rw [List.getElem?_set_ne (by omega),hcj];rfl
  |3,_=>rw [List.getElem?_set_ne (by omega),hcj];rfl
  |4,_=>rw [List.getElem?_set_self (by rw [hs];omega)];rfl
 ·rw [if_neg hb,List.getElem?_set_ne (by omega)]
end
def Qb5 (n a b:Int):Bool:=decide (a≤n)&&decide (n≤b)
def Qb9 (e:Se):Bool:=
 Qb5 e.li 0 63&&!e.sn&&((e.kd==9&&Qb5 e.wo 0 7)||((e.kd==12||e.kd==13||e.kd==14)&&(e.wo==0&&e.va==0)))
def sbV (room:Nat) (es:List Se) (e:Se):Int:=if Qb9 e then (if room≤es.length then 13 else 0) else 11
def sbE (room:Nat) (es:List Se) (e:Se):List Se:=if Qb9 e then (if room≤es.length then es else es++[e]) else es
def hdE (es:List Se):Se:=es.headD seZ
def hdB (es:List Se):Bool:=!es.isEmpty
def isAt (li wo:Int) (e:Se):Bool:=e.kd==9&&(e.li==li&&e.wo==wo)
def fdO (es:List Se) (li wo:Int):Option Se:=es.reverse.find? (isAt li wo)
def fdV (es:List Se) (li wo:Int):Int:=match fdO es li wo with|some e=>e.va|none=>0
def fdB (es:List Se) (li wo:Int):Bool:=(fdO es li wo).isSome
def sdE:List Se→List Se
 |[]=>[]
 |e::es=>if e.kd=14 then sent e::es else e::es
theorem fdO_none {es:List Se} {li wo:Int} (h:∀e∈es,isAt li wo e=false):fdO es li wo=none:=by
 unfold fdO
 rw [List.find?_eq_none]
 intro x hx
 simp [h x (List.mem_reverse.1 hx)]
theorem fdO_some {es:List Se} {li wo:Int} {k:Nat} {e:Se} (he:es[k]? =some e) (h:isAt li wo e=true) (hd:∀x∈es.drop (k+1),isAt li wo x=false):fdO es li wo=some e:=by
 obtain ⟨hk,rfl⟩:=Vg he
 have hc:es=es.take k++es[k]::es.drop (k+1):=by rw [←List.drop_eq_getElem_cons hk,List.take_append_drop]
 unfold fdO
 rw [show es.reverse=(es.drop (k+1)).reverse++es[k]::(es.take k).reverse by
  conv=>lhs;rw [hc]
  simp,List.find?_append,List.find?_eq_none.2 (by
  intro x hx
  simp [hd x (List.mem_reverse.1 hx)]),List.find?_cons_of_pos h]
 rfl
theorem drop_all12 {α:Type} {p:α→Bool} {es:List α} {k:Nat} {e:α} (he:es[k]? =some e) (h:p e=false) (hd:∀x∈es.drop (k+1),p x=false):∀x∈es.drop k,p x=false:=by
 obtain ⟨hk,rfl⟩:=Vg he
 rw [List.drop_eq_getElem_cons hk]
 intro x hx
 rcases List.mem_cons.1 hx with rfl|hx
 ·exact h
 ·exact hd x hx
end
section
structure Ev where
 kd:Int
 co:Int
 li:Int
 wo:Int
 va:Int
deriving DecidableEq
def Ev.enc (e:Ev):List Value:=[.int .i64 e.kd,.int .i64 e.co,.int .i64 e.li,.int .i64 e.wo,.int .u64 e.va]
def evc (e:Ev):Array Value:=(Ev.enc e).toArray
def evZ:Ev:=⟨0,0,0,0,0⟩
theorem Ev.len (e:Ev):(Ev.enc e).length=5:=rfl
theorem Ev.one (e:Ev):∀v∈Ev.enc e,v.oneCell'=true:=by
 intro v hv
 simp only [Ev.enc,List.mem_cons,Vn,or_false] at hv
 rcases hv with rfl|rfl|rfl|rfl|rfl<;>rfl
theorem Q8 (e:Ev):(evc e).size=5:=by simp [evc,Ev.enc]
theorem Xt (e:Ev):Qab (evc e):=Qp _ (List.all_eq_true.2 (Ev.one e))
theorem Yq (e:Ev):(evc e)[0]? =some (.int .i64 e.kd):=rfl
theorem Yr (e:Ev):(evc e)[1]? =some (.int .i64 e.co):=rfl
theorem Yp (e:Ev):(evc e)[2]? =some (.int .i64 e.li):=rfl
theorem Ym (e:Ev):(evc e)[3]? =some (.int .i64 e.wo):=rfl
theorem Yn (e:Ev):(evc e)[4]? =some (.int .u64 e.va):=rfl
theorem Xu (k c l o v:Int):(#[.int .i64 k,.int .i64 c,.int .i64 l,.int .i64 o,.int .u64 v]:Array Value)=evc ⟨k,c,l,o,v⟩:=rfl
theorem JP:evc ⟨0,0,0,0,0⟩=evc evZ:=rfl
theorem Z3 (e:Ev) (v:Int):(evc e).setIfInBounds 0 (.int .i64 v)=evc ⟨v,e.co,e.li,e.wo,e.va⟩:=by simp [evc,Ev.enc]
theorem Z2 (e:Ev) (v:Int):(evc e).setIfInBounds 1 (.int .i64 v)=evc ⟨e.kd,v,e.li,e.wo,e.va⟩:=by simp [evc,Ev.enc]
theorem Z1 (e:Ev) (v:Int):(evc e).setIfInBounds 2 (.int .i64 v)=evc ⟨e.kd,e.co,v,e.wo,e.va⟩:=by simp [evc,Ev.enc]
theorem Z0 (e:Ev) (v:Int):(evc e).setIfInBounds 3 (.int .i64 v)=evc ⟨e.kd,e.co,e.li,v,e.va⟩:=by simp [evc,Ev.enc]
theorem ZZ (e:Ev) (v:Int):(evc e).setIfInBounds 4 (.int .u64 v)=evc ⟨e.kd,e.co,e.li,e.wo,v⟩:=by simp [evc,Ev.enc]
theorem Yv:evZ.kd=0:=rfl
theorem Yw:evZ.co=0:=rfl
theorem Yu:evZ.li=0:=rfl
theorem Ys:evZ.wo=0:=rfl
theorem Yt:evZ.va=0:=rfl
theorem Yo (e:Ev):(evc e=#[])=False:=eq_false (fun h=>by have:=congrArg Array.size h;rw [Q8] at this;cases this)
theorem ZY (C:Array Value) (e:Ev) (h:C.size=5):Array.foldl (fun cs y=>cs.setIfInBounds y.snd y.fst) C (evc e).zipIdx 0 5=evc e:=Qeh _ _ _ (Q8 e) h
theorem Qhy (e:Ev):sq Ev.enc [e] []=evc e:=by simp [sq,cat,evc]
end
section
def opRow (r g:Value):Value:=.agg #[r,g]
def fnv (n:Nat):Value:=.func (.func n) #[] #[]
def opKey:Nat→Int
 |0=>2|1=>3|2=>4|3=>5|4=>6|5=>7|6=>17|7=>18|8=>19|_=>20
def opVal:Nat→Value
 |0=>opRow (fnv 182) .nilFunc|1=>opRow (fnv 183) .nilFunc|2=>opRow (fnv 184) .nilFunc
 |3=>opRow (fnv 185) .nilFunc|4=>opRow (fnv 186) .nilFunc|5=>opRow (fnv 187) .nilFunc
 |6=>opRow .nilFunc (fnv 188)|7=>opRow .nilFunc (fnv 189)|8=>opRow .nilFunc (fnv 190)|_=>opRow .nilFunc (fnv 191)
def tbl:Nat→Array MapEntry
 |0=>#[]
 |j+1=>(tbl j).push {key:=.int .i64 (opKey j),val:=opVal j,born:=j}
def mapW (W:World) (j:Nat):World:=W.alloc (.map (tbl j) j)
theorem mapW_made (W:World):(Instr.makeMap 241 none).run Tryz.prog W=.ok (.map (some W.heap.size)) (mapW W 0):=rfl
theorem alloc_set (W:World) (a b:Obj):({W.alloc a with heap:=(W.alloc a).heap.setIfInBounds W.heap.size b}:World)=W.alloc b:=by
 refine World.ext_heap ?_ rfl rfl rfl rfl
 show (W.heap.push a).setIfInBounds W.heap.size b=W.heap.push b
 apply Array.ext'
 rw [Array.toList_setIfInBounds,Array.toList_push,Array.toList_push,←Array.length_toList,List.set_append_right _ _ (Nat.le_refl _)]
 simp
theorem mapW_at (W:World) (j:Nat):(mapW W j).heap[W.heap.size]? =some (.map (tbl j) j):=(MapKept.heap_alloc W _).1
theorem Qhv (w:World):(underlying 241).run Tryz.prog w=.ok (.map 3 240) w:=run_underlying Tryz.underlying241 w
theorem Qiw (k:Int) (e:Bool) (w:World):(Instr.checkKey e 10000 3 (.int .i64 k)).run Tryz.prog w=.ok () w:=MapKept.run_checkKey (d:=.int .i64) (k:=.int .i64 k) Tryz.underlying3 (by simp [MapKept.IsKey]) e 9999
theorem Qbf (W:World) (j:Nat) (k:Int) (v:Value) (hk:opKey j=k) (hv:opVal j=v) (h:Instr.findNow (.int .i64) (.int .i64 k) (tbl j).toList 0=some none):
 (Instr.mapUpdate 241 (.map (some W.heap.size)) (.int .i64 k) v).run Tryz.prog (mapW W j)=.ok () (mapW W (j+1)):=by
 subst hk hv
 have hb:=mapW_at W j
 have h2:∀w,(Instr.findKey 3 (.int .i64 (opKey j)) (tbl j).toList).run Tryz.prog w=.ok none w:=fun w=>MapKept.run_findKey Tryz.underlying3 h
 simp only [Instr.mapUpdate,Sem.run_bind,Qhv,Result.andThen,getObj,Sem.run,hb,Qiw,h2,setObj]
 exact congrArg (Result.ok ()) (alloc_set W (.map (tbl j) j) _)
theorem put0 (W:World):(Instr.mapUpdate 241 (.map (some W.heap.size)) (.int .i64 2) (.agg #[(.func (.func 182) #[] #[]),.nilFunc])).run Tryz.prog (mapW W 0)=.ok () (mapW W 1):=Qbf W 0 2 _ rfl rfl rfl
theorem put1 (W:World):(Instr.mapUpdate 241 (.map (some W.heap.size)) (.int .i64 3) (.agg #[(.func (.func 183) #[] #[]),.nilFunc])).run Tryz.prog (mapW W 1)=.ok () (mapW W 2):=Qbf W 1 3 _ rfl rfl rfl
theorem put2 (W:World):(Instr.mapUpdate 241 (.map (some W.heap.size)) (.int .i64 4) (.agg #[(.func (.func 184) #[] #[]),.nilFunc])).run Tryz.prog (mapW W 2)=.ok () (mapW W 3):=Qbf W 2 4 _ rfl rfl rfl
theorem put3 (W:World):(Instr.mapUpdate 241 (.map (some W.heap.size)) (.int .i64 5) (.agg #[(.func (.func 185) #[] #[]),.nilFunc])).run Tryz.prog (mapW W 3)=.ok () (mapW W 4):=Qbf W 3 5 _ rfl rfl rfl
theorem put4 (W:World):(Instr.mapUpdate 241 (.map (some W.heap.size)) (.int .i64 6) (.agg #[(.func (.func 186) #[] #[]),.nilFunc])).run Tryz.prog (mapW W 4)=.ok () (mapW W 5):=Qbf W 4 6 _ rfl rfl rfl
theorem put5 (W:World):(Instr.mapUpdate 241 (.map (some W.heap.size)) (.int .i64 7) (.agg #[(.func (.func 187) #[] #[]),.nilFunc])).run Tryz.prog (mapW W 5)=.ok () (mapW W 6):=Qbf W 5 7 _ rfl rfl rfl
theorem put6 (W:World):(Instr.mapUpdate 241 (.map (some W.heap.size)) (.int .i64 17) (.agg #[.nilFunc,(.func (.func 188) #[] #[])])).run Tryz.prog (mapW W 6)=.ok () (mapW W 7):=Qbf W 6 17 _ rfl rfl rfl
theorem put7 (W:World):(Instr.mapUpdate 241 (.map (some W.heap.size)) (.int .i64 18) (.agg #[.nilFunc,(.func (.func 189) #[] #[])])).run Tryz.prog (mapW W 7)=.ok () (mapW W 8):=Qbf W 7 18 _ rfl rfl rfl
theorem put8 (W:World):(Instr.mapUpdate 241 (.map (some W.heap.size)) (.int .i64 19) (.agg #[.nilFunc,(.func (.func 190) #[] #[])])).run Tryz.prog (mapW W 8)=.ok () (mapW W 9):=Qbf W 8 19 _ rfl rfl rfl
theorem put9 (W:World):(Instr.mapUpdate 241 (.map (some W.heap.size)) (.int .i64 20) (.agg #[.nilFunc,(.func (.func 191) #[] #[])])).run Tryz.prog (mapW W 9)=.ok () (mapW W 10):=Qbf W 9 20 _ rfl rfl rfl
theorem Qbk (W:World):Calls Tryz.prog 135 #[] W fun e w'=>e=.returned (.map (some W.heap.size))∧w'=mapW W 10:=by
 have hm:=mapW_made
 have h0:=put0 W
 have h1:=put1 W
 have h2:=put2 W
 have h3:=put3 W
 have h4:=put4 W
 have h5:=put5 W
 have h6:=put6 W
 have h7:=put7 W
 have h8:=put8 W
 have h9:=put9 W
 go_enter Tryz.func135,Tryz.ntmps135
 exact Tz34
def recF (op:Int):Value:=if op=2 then .func (.func 182) #[] #[] else if op=3 then .func (.func 183) #[] #[] else if op=4 then .func (.func 184) #[] #[] else if op=5 then .func (.func 185) #[] #[] else if op=6 then .func (.func 186) #[] #[] else if op=7 then .func (.func 187) #[] #[] else .nilFunc
def goF (op:Int):Value:=if op=17 then .func (.func 188) #[] #[] else if op=18 then .func (.func 189) #[] #[] else if op=19 then .func (.func 190) #[] #[] else if op=20 then .func (.func 191) #[] #[] else .nilFunc
theorem tbl10:(tbl 10).toList=[
 {key:=.int .i64 2,val:=.agg #[.func (.func 182) #[] #[],.nilFunc],born:=0},
 {key:=.int .i64 3,val:=.agg #[.func (.func 183) #[] #[],.nilFunc],born:=1},
 {key:=.int .i64 4,val:=.agg #[.func (.func 184) #[] #[],.nilFunc],born:=2},
 {key:=.int .i64 5,val:=.agg #[.func (.func 185) #[] #[],.nilFunc],born:=3},
 {key:=.int .i64 6,val:=.agg #[.func (.func 186) #[] #[],.nilFunc],born:=4},
 {key:=.int .i64 7,val:=.agg #[.func (.func 187) #[] #[],.nilFunc],born:=5},
 {key:=.int .i64 17,val:=.agg #[.nilFunc,.func (.func 188) #[] #[]],born:=6},
 {key:=.int .i64 18,val:=.agg #[.nilFunc,.func (.func 189) #[] #[]],born:=7},
 {key:=.int .i64 19,val:=.agg #[.nilFunc,.func (.func 190) #[] #[]],born:=8},
 {key:=.int .i64 20,val:=.agg #[.nilFunc,.func (.func 191) #[] #[]],born:=9}]:=rfl
theorem zero_op (w:World):(zeroValue 240).run Tryz.prog w=.ok (.agg #[.nilFunc,.nilFunc]) w:=by kernel_rfl
theorem JY {op:Int} {W:World} {b i:Nat} {v:Value} (hb:W.heap[b]? =some (.map (tbl 10) 10)) (h:Instr.findNow (.int .i64) (.int .i64 op) (tbl 10).toList 0=some (some (i,v))):
 (Instr.lookup 241 (.map (some b)) (.int .i64 op) false).run Tryz.prog W=.ok v W:=by
 have h2:∀w,(Instr.findKey 3 (.int .i64 op) (tbl 10).toList).run Tryz.prog w=.ok (some (i,v)) w:=fun w=>MapKept.run_findKey Tryz.underlying3 h
 simp only [Instr.lookup,Sem.run_bind,Qhv,Result.andThen,getObj,Sem.run,hb,Qiw,Sem.run_pure,h2]
 rfl
theorem look_none {op:Int} {W:World} {b:Nat} (hb:W.heap[b]? =some (.map (tbl 10) 10)) (h:Instr.findNow (.int .i64) (.int .i64 op) (tbl 10).toList 0=some none):
 (Instr.lookup 241 (.map (some b)) (.int .i64 op) false).run Tryz.prog W=.ok (.agg #[.nilFunc,.nilFunc]) W:=by
 have h2:∀w,(Instr.findKey 3 (.int .i64 op) (tbl 10).toList).run Tryz.prog w=.ok none w:=fun w=>MapKept.run_findKey Tryz.underlying3 h
 simp only [Instr.lookup,Sem.run_bind,Qhv,Result.andThen,getObj,Sem.run,hb,Qiw,Sem.run_pure,h2,zero_op]
 rfl
theorem look_op (op:Int) (W:World) (b:Nat) (hb:W.heap[b]? =some (.map (tbl 10) 10)):(Instr.lookup 241 (.map (some b)) (.int .i64 op) false).run Tryz.prog W=.ok (.agg #[recF op,goF op]) W:=by
 by_cases h2:op=2
 ·subst h2;exact JY hb rfl
 by_cases h3:op=3
 ·subst h3;exact JY hb rfl
 by_cases h4:op=4
 ·subst h4;exact JY hb rfl
 by_cases h5:op=5
 ·subst h5;exact JY hb rfl
 by_cases h6:op=6
 ·subst h6;exact JY hb rfl
 by_cases h7:op=7
 ·subst h7;exact JY hb rfl
 by_cases h17:op=17
 ·subst h17;exact JY hb rfl
 by_cases h18:op=18
 ·subst h18;exact JY hb rfl
 by_cases h19:op=19
 ·subst h19;exact JY hb rfl
 by_cases h20:op=20
 ·subst h20;exact JY hb rfl
 rw [show recF op=.nilFunc by simp [recF,h2,h3,h4,h5,h6,h7],show goF op=.nilFunc by simp [goF,h17,h18,h19,h20]]
 refine look_none hb ?_
 rw [tbl10]
 have e2:(op==2)=false:=by simpa using h2
 have e3:(op==3)=false:=by simpa using h3
 have e4:(op==4)=false:=by simpa using h4
 have e5:(op==5)=false:=by simpa using h5
 have e6:(op==6)=false:=by simpa using h6
 have e7:(op==7)=false:=by simpa using h7
 have e17:(op==17)=false:=by simpa using h17
 have e18:(op==18)=false:=by simpa using h18
 have e19:(op==19)=false:=by simpa using h19
 have e20:(op==20)=false:=by simpa using h20
 simp only [Instr.findNow,Instr.sameNow,if_pos,e2,e3,e4,e5,e6,e7,e17,e18,e19,e20]
theorem look_map (op:Int) (W:World):(Instr.lookup 241 (.map (some W.heap.size)) (.int .i64 op) false).run Tryz.prog (mapW W 10)=.ok (.agg #[recF op,goF op]) (mapW W 10):=look_op op _ _ (mapW_at W 10)
theorem Chg.mapW (W:World) (j:Nat):Chg [] W (mapW W j):=(Chg.refl [] W).alloc _
end
section
theorem fadd (x y:Int) (w:World):Calls Tryz.prog 182 #[.int .u64 x,.int .u64 y] w fun e w'=>e=.returned (.int .u64 (IntKind.u64.wrap (x+y)))∧w=w':=by
 go_enter Tryz.func182,Tryz.ntmps182
 go_wp2
 go_ret
 exact ⟨rfl,rfl⟩
theorem fsub (x y:Int) (w:World):Calls Tryz.prog 183 #[.int .u64 x,.int .u64 y] w fun e w'=>e=.returned (.int .u64 (IntKind.u64.wrap (x-y)))∧w=w':=by
 go_enter Tryz.func183,Tryz.ntmps183
 go_wp2
 go_ret
 exact ⟨rfl,rfl⟩
theorem fand (x y:Int) (w:World):Calls Tryz.prog 184 #[.int .u64 x,.int .u64 y] w fun e w'=>e=.returned (.int .u64 (bits .and .u64 x y))∧w=w':=by
 go_enter Tryz.func184,Tryz.ntmps184
 go_wp2
 go_ret
 exact ⟨rfl,rfl⟩
theorem fxor (x y:Int) (w:World):Calls Tryz.prog 185 #[.int .u64 x,.int .u64 y] w fun e w'=>e=.returned (.int .u64 (bits .xor .u64 x y))∧w=w':=by
 go_enter Tryz.func185,Tryz.ntmps185
 go_wp2
 go_ret
 exact ⟨rfl,rfl⟩
theorem fshl (x y:Int) (hy:0≤y) (w:World):Calls Tryz.prog 186 #[.int .u64 x,.int .u64 y] w fun e w'=>e=.returned (.int .u64 (IntKind.u64.wrap (x*2 ^ (y % 64).toNat)))∧w=w':=by
 have h1:0≤y % 64:=by omega
 have h2:(y % 64).toNat<64:=by omega
 go_enter Tryz.func186,Tryz.ntmps186
 go_wp2
 go_ret
 exact ⟨rfl,rfl⟩
theorem fshr (x y:Int) (hy:0≤y) (w:World):Calls Tryz.prog 187 #[.int .u64 x,.int .u64 y] w fun e w'=>e=.returned (.int .u64 (x / 2 ^ (y % 64).toNat))∧w=w':=by
 have h1:0≤y % 64:=by omega
 have h2:(y % 64).toNat<64:=by omega
 go_enter Tryz.func187,Tryz.ntmps187
 go_wp2
 go_ret
 exact ⟨rfl,rfl⟩
theorem fjmp (x y:Int) (w:World):Calls Tryz.prog 188 #[.int .u64 x,.int .u64 y] w fun e w'=>e=.returned (.bool (true))∧w=w':=by
 go_enter Tryz.func188,Tryz.ntmps188
 go_wp2
 go_ret
 exact ⟨rfl,rfl⟩
theorem feq (x y:Int) (w:World):Calls Tryz.prog 189 #[.int .u64 x,.int .u64 y] w fun e w'=>e=.returned (.bool (x==y))∧w=w':=by
 go_enter Tryz.func189,Tryz.ntmps189
 go_wp2
 go_ret
 exact ⟨rfl,rfl⟩
theorem fne (x y:Int) (w:World):Calls Tryz.prog 190 #[.int .u64 x,.int .u64 y] w fun e w'=>e=.returned (.bool (x !=y))∧w=w':=by
 go_enter Tryz.func190,Tryz.ntmps190
 go_wp2
 go_ret
 exact ⟨rfl,rfl⟩
theorem flt (x y:Int) (w:World):Calls Tryz.prog 191 #[.int .u64 x,.int .u64 y] w fun e w'=>e=.returned (.bool (decide (x<y)))∧w=w':=by
 go_enter Tryz.func191,Tryz.ntmps191
 go_wp2
 go_ret
 exact ⟨rfl,rfl⟩
def doV (op b c:Int):Int:=if op=2 then IntKind.u64.wrap (b+c) else if op=3 then IntKind.u64.wrap (b-c) else if op=4 then bits .and .u64 b c else if op=5 then bits .xor .u64 b c else if op=6 then IntKind.u64.wrap (b*2 ^ (c % 64).toNat) else if op=7 then b / 2 ^ (c % 64).toNat else 0
def doK (op:Int):Bool:=decide (op=2∨op=3∨op=4∨op=5∨op=6∨op=7)
def goV (op a b:Int):Bool:=if op=17 then true else if op=18 then a==b else if op=19 then a !=b else if op=20 then decide (a<b) else false
def goK (op:Int):Bool:=decide (op=17∨op=18∨op=19∨op=20)
theorem Qe4 (r g:Value) (w:World):(Instr.field 240 (.agg #[r,g]) 0).run Tryz.prog w=.ok r w:=by kernel_rfl
theorem Qio (r g:Value) (w:World):(Instr.field 240 (.agg #[r,g]) 1).run Tryz.prog w=.ok g w:=by kernel_rfl
theorem some_r (n:Nat) (w:World):(binOp .eql 237 (.func (.func n) #[] #[]) .nilFunc).run Tryz.prog w=.ok (.bool false) w:=by kernel_rfl
theorem nil_r (w:World):(binOp .eql 237 .nilFunc .nilFunc).run Tryz.prog w=.ok (.bool true) w:=by kernel_rfl
theorem some_g (n:Nat) (w:World):(binOp .eql 238 (.func (.func n) #[] #[]) .nilFunc).run Tryz.prog w=.ok (.bool false) w:=by kernel_rfl
theorem nil_g (w:World):(binOp .eql 238 .nilFunc .nilFunc).run Tryz.prog w=.ok (.bool true) w:=by kernel_rfl
theorem Qgm (op b c:Int) (hc:0≤c) (w:World):Calls Tryz.prog 102 #[.int .i64 op,.int .u64 b,.int .u64 c] w fun e w'=>e=.returned (.tuple #[.int .u64 (doV op b c),.bool (doK op)])∧w'=mapW w 10:=by
 have hl:=look_map op w
 by_cases h2:op=2
 ·subst h2
  rw [show recF 2=.func (.func 182) #[] #[] from rfl] at hl
  have hf:=Qe4 (.func (.func 182) #[] #[]) (goF 2) (mapW w 10)
  have hn:=some_r 182 (mapW w 10)
  go_enter Tryz.func102,Tryz.ntmps102
  go_wp2_with (first |(go_at_call 135;refine (Qbk _).mono ?_;rintro e w' ⟨rfl,rfl⟩)|(go_at_call 182;refine (fadd _ _ _).mono ?_;rintro e w' ⟨rfl,rfl⟩))
  go_ret2
  exact ⟨rfl,rfl⟩
 by_cases h3:op=3
 ·subst h3
  rw [show recF 3=.func (.func 183) #[] #[] from rfl] at hl
  have hf:=Qe4 (.func (.func 183) #[] #[]) (goF 3) (mapW w 10)
  have hn:=some_r 183 (mapW w 10)
  go_enter Tryz.func102,Tryz.ntmps102
  go_wp2_with (first |(go_at_call 135;refine (Qbk _).mono ?_;rintro e w' ⟨rfl,rfl⟩)|(go_at_call 183;refine (fsub _ _ _).mono ?_;rintro e w' ⟨rfl,rfl⟩))
  go_ret2
  exact ⟨rfl,rfl⟩
 by_cases h4:op=4
 ·subst h4
  rw [show recF 4=.func (.func 184) #[] #[] from rfl] at hl
  have hf:=Qe4 (.func (.func 184) #[] #[]) (goF 4) (mapW w 10)
  have hn:=some_r 184 (mapW w 10)
  go_enter Tryz.func102,Tryz.ntmps102
  go_wp2_with (first |(go_at_call 135;refine (Qbk _).mono ?_;rintro e w' ⟨rfl,rfl⟩)|(go_at_call 184;refine (fand _ _ _).mono ?_;rintro e w' ⟨rfl,rfl⟩))
  go_ret2
  exact ⟨rfl,rfl⟩
 by_cases h5:op=5
 ·subst h5
  rw [show recF 5=.func (.func 185) #[] #[] from rfl] at hl
  have hf:=Qe4 (.func (.func 185) #[] #[]) (goF 5) (mapW w 10)
  have hn:=some_r 185 (mapW w 10)
  go_enter Tryz.func102,Tryz.ntmps102
  go_wp2_with (first |(go_at_call 135;refine (Qbk _).mono ?_;rintro e w' ⟨rfl,rfl⟩)|(go_at_call 185;refine (fxor _ _ _).mono ?_;rintro e w' ⟨rfl,rfl⟩))
  go_ret2
  exact ⟨rfl,rfl⟩
 by_cases h6:op=6
 ·subst h6
  rw [show recF 6=.func (.func 186) #[] #[] from rfl] at hl
  have hf:=Qe4 (.func (.func 186) #[] #[]) (goF 6) (mapW w 10)
  have hn:=some_r 186 (mapW w 10)
  go_enter Tryz.func102,Tryz.ntmps102
  go_wp2_with (first |(go_at_call 135;refine (Qbk _).mono ?_;rintro e w' ⟨rfl,rfl⟩)|(go_at_call 186;refine (fshl _ _ hc _).mono ?_;rintro e w' ⟨rfl,rfl⟩))
  go_ret2
  exact ⟨rfl,rfl⟩
 by_cases h7:op=7
 ·subst h7
  rw [show recF 7=.func (.func 187) #[] #[] from rfl] at hl
  have hf:=Qe4 (.func (.func 187) #[] #[]) (goF 7) (mapW w 10)
  have hn:=some_r 187 (mapW w 10)
  go_enter Tryz.func102,Tryz.ntmps102
  go_wp2_with (first |(go_at_call 135;refine (Qbk _).mono ?_;rintro e w' ⟨rfl,rfl⟩)|(go_at_call 187;refine (fshr _ _ hc _).mono ?_;rintro e w' ⟨rfl,rfl⟩))
  go_ret2
  exact ⟨rfl,rfl⟩
 rw [show recF op=.nilFunc by simp [recF,h2,h3,h4,h5,h6,h7]] at hl
 rw [show doV op b c=0 by simp [doV,h2,h3,h4,h5,h6,h7],show doK op=false by simp [doK,h2,h3,h4,h5,h6,h7]]
 have hf:=Qe4 .nilFunc (goF op) (mapW w 10)
 have hn:=nil_r (mapW w 10)
 clear h2 h3 h4 h5 h6 h7
 go_enter Tryz.func102,Tryz.ntmps102
 go_wp2_with (go_at_call 135;refine (Qbk _).mono ?_;rintro e w' ⟨rfl,rfl⟩)
 go_ret2
 exact ⟨rfl,rfl⟩
theorem ggo_any (op a b:Int) (w:World):Calls Tryz.prog 136 #[.int .i64 op,.int .u64 a,.int .u64 b] w fun e w'=>e=.returned (.tuple #[.bool (goV op a b),.bool (goK op)])∧w'=mapW w 10:=by
 have hl:=look_map op w
 by_cases h17:op=17
 ·subst h17
  rw [show goF 17=.func (.func 188) #[] #[] from rfl] at hl
  have hf:=Qio (recF 17) (.func (.func 188) #[] #[]) (mapW w 10)
  have hn:=some_g 188 (mapW w 10)
  go_enter Tryz.func136,Tryz.ntmps136
  go_wp2_with (first |(go_at_call 135;refine (Qbk _).mono ?_;rintro e w' ⟨rfl,rfl⟩)|(go_at_call 188;refine (fjmp _ _ _).mono ?_;rintro e w' ⟨rfl,rfl⟩))
  go_ret2
  exact ⟨rfl,rfl⟩
 by_cases h18:op=18
 ·subst h18
  rw [show goF 18=.func (.func 189) #[] #[] from rfl] at hl
  have hf:=Qio (recF 18) (.func (.func 189) #[] #[]) (mapW w 10)
  have hn:=some_g 189 (mapW w 10)
  go_enter Tryz.func136,Tryz.ntmps136
  go_wp2_with (first |(go_at_call 135;refine (Qbk _).mono ?_;rintro e w' ⟨rfl,rfl⟩)|(go_at_call 189;refine (feq _ _ _).mono ?_;rintro e w' ⟨rfl,rfl⟩))
  go_ret2
  exact ⟨rfl,rfl⟩
 by_cases h19:op=19
 ·subst h19
  rw [show goF 19=.func (.func 190) #[] #[] from rfl] at hl
  have hf:=Qio (recF 19) (.func (.func 190) #[] #[]) (mapW w 10)
  have hn:=some_g 190 (mapW w 10)
  go_enter Tryz.func136,Tryz.ntmps136
  go_wp2_with (first |(go_at_call 135;refine (Qbk _).mono ?_;rintro e w' ⟨rfl,rfl⟩)|(go_at_call 190;refine (fne _ _ _).mono ?_;rintro e w' ⟨rfl,rfl⟩))
  go_ret2
  exact ⟨rfl,rfl⟩
 by_cases h20:op=20
 ·subst h20
  rw [show goF 20=.func (.func 191) #[] #[] from rfl] at hl
  have hf:=Qio (recF 20) (.func (.func 191) #[] #[]) (mapW w 10)
  have hn:=some_g 191 (mapW w 10)
  go_enter Tryz.func136,Tryz.ntmps136
  go_wp2_with (first |(go_at_call 135;refine (Qbk _).mono ?_;rintro e w' ⟨rfl,rfl⟩)|(go_at_call 191;refine (flt _ _ _).mono ?_;rintro e w' ⟨rfl,rfl⟩))
  go_ret2
  exact ⟨rfl,rfl⟩
 rw [show goF op=.nilFunc by simp [goF,h17,h18,h19,h20]] at hl
 rw [show goV op a b=false by simp [goV,h17,h18,h19,h20],show goK op=false by simp [goK,h17,h18,h19,h20]]
 have hf:=Qio (recF op) .nilFunc (mapW w 10)
 have hn:=nil_g (mapW w 10)
 clear h17 h18 h19 h20
 go_enter Tryz.func136,Tryz.ntmps136
 go_wp2_with (go_at_call 135;refine (Qbk _).mono ?_;rintro e w' ⟨rfl,rfl⟩)
 go_ret2
 exact ⟨rfl,rfl⟩
theorem gsum_any (b k:Int) (w:World):Calls Tryz.prog 138 #[.int .u64 b,.int .i64 k] w fun e w'=>e=.returned (.int .u64 (IntKind.u64.wrap (b+IntKind.u64.wrap k)))∧w=w':=by
 go_enter Tryz.func138,Tryz.ntmps138
 go_wp2
 go_ret
 exact ⟨rfl,rfl⟩
end
section
theorem XV:Wide Tryz.prog 165 5:=⟨⟨_,Tryz.underlying165,by rfl⟩,by kernel_rfl⟩
theorem X7 (x:Value):Instr.loadAt 165 x=Qdf 165 5 x:=rfl
theorem Xl (x y:Value):Instr.storeAt 165 x y=Qar 165 5 x y:=rfl
theorem loadBuf (x:Value):Instr.loadAt 168 x=Qdf 168 83 x:=rfl
theorem storeBuf (x y:Value):Instr.storeAt 168 x y=Qar 168 83 x y:=rfl
theorem zbuf (w:World):(zeroValue 168).run Tryz.prog w=.ok (.agg (bfc 0 ringZ 0 0)) w:=by kernel_rfl
theorem Qi1 (room:Int):(bfc 0 ringZ 0 0).setIfInBounds 0 (.int .i64 room)=bfc room ringZ 0 0:=by simp [bfc]
theorem bfc_ne (room:Int) (r:Ring) (f c:Nat):(bfc room r f c=#[])=False:=by
 simp only [eq_iff_iff,iff_false]
 intro h
 have:=congrArg Array.size h
 rw [Qdc] at this
 cases this
theorem quiet_same12 {P:Program} {f:FuncId} {args:Array Value} {w:World} {n:Nat} {v:Value} (h:Calls P f args (w.drewN n) fun e w'=>e=.returned v∧w.drewN n=w'):Calls P f args (w.drewN n) fun e w''=>e=.returned v∧∃m,w''=w.drewN m:=
 h.mono fun _ _ ⟨he,hm⟩=>⟨he,n,hm.symm⟩
attribute [local go_sem ↓] Qv QF Qx QP QG Qs X7 Xl loadBuf storeBuf Qk Qh heap_alloc Ql heap_setCell Qc X1 X0 XW XX XY bfc_room bfc_first bfc_count
attribute [local go_sem] Qb Qa Qe Qi Qd Qg Qf XV QB Qw QN QL QM Q6 QJ QA Qr QD fit_pl QX QI Qq QC Qp Qj Qo Qn Q5 Xm Xn JC XZ ZU ZT ZS ZR X6 X5 X2 X3 X4 Qdc Qbj Qaa Qgt Qf3 Qfa Qf2
attribute [local simp ↓] Qk Qh heap_alloc Ql heap_setCell Qc
attribute [local simp] Qb Qa Qe Qi Qd Qg Qf Qr fit_pl Qj Qo Qn Q5 Qdc Qbj Qaa Qgt Qfa Qf2
attribute [local go_sem ↓] zbuf
attribute [local go_sem] Qi1 bfc_ne
theorem J1 (n a b:Int) (w:World):Calls Tryz.prog 77 #[.int .i64 n,.int .i64 a,.int .i64 b] w fun e w'=>e=.returned (.bool (Qb5 n a b))∧w=w':=by
 unfold Qb5
 cases h1:decide (a≤n)
 ·go_enter Tryz.func77,Tryz.ntmps77
  go_wp2
  go_ret
  exact ⟨rfl,rfl⟩
 ·go_enter Tryz.func77,Tryz.ntmps77
  go_wp2
  go_ret
  exact ⟨rfl,rfl⟩
theorem snew_ok (room:Int) (w:World) (h:Qb5 room 1 16=true):Calls Tryz.prog 46 #[.int .i64 room] w fun e w'=>e=.returned (.tuple #[.pointer (some ⟨w.heap.size,0,none⟩),.int .i64 0])∧w'=w.alloc (.cells (bfc room ringZ 0 0) 168):=by
 go_enter Tryz.func46,Tryz.ntmps46
 go_wp2_with (go_at_call 77;refine (J1 _ _ _ _).mono ?_;rintro e w' ⟨rfl,rfl⟩)
 go_ret2
 exact ⟨rfl,rfl⟩
theorem slen_nil (w:World):Calls Tryz.prog 126 #[.pointer none] w fun e w'=>e=.returned (.int .i64 0)∧w=w':=by
 go_enter Tryz.func126,Tryz.ntmps126
 go_wp2
 go_ret
 exact ⟨rfl,rfl⟩
theorem slen_at {w:World} {q:Nat} {room:Int} {r:Ring} {f c:Nat} (hq:w.heap[q]? =some (.cells (bfc room r f c) 168 (0,0))):Calls Tryz.prog 126 #[.pointer (some ⟨q,0,none⟩)] w fun e w'=>e=.returned (.int .i64 c)∧w=w':=by
 go_enter Tryz.func126,Tryz.ntmps126
 go_wp2
 go_ret
 exact ⟨rfl,rfl⟩
theorem splace_at {w:World} {q:Nat} {room:Int} {r:Ring} {f c n:Nat} (hf:f<16) (hn:n≤1000) (hq:w.heap[q]? =some (.cells (bfc room r f c) 168 (0,0))):Calls Tryz.prog 178 #[.pointer (some ⟨q,0,none⟩),.int .i64 n] w fun e w'=>e=.returned (.int .i64 (pl f n))∧w=w':=by
 have g1:(f:Int)<16:=by omega
 have g2:(n:Int)≤1000:=by omega
 go_enter Tryz.func178,Tryz.ntmps178
 go_wp2
 go_ret
 exact ⟨by rw [show ((f:Int)+n) % 16=((pl f n:Nat):Int) by unfold pl;omega];rfl,rfl⟩
theorem sat_at {w:World} {q:Nat} {room:Int} {r:Ring} {f c n:Nat} (hf:f<16) (hn:n≤1000) (hq:w.heap[q]? =some (.cells (bfc room r f c) 168 (0,0))):Calls Tryz.prog 127 #[.pointer (some ⟨q,0,none⟩),.int .i64 n] w fun e w'=>e=.returned (.pointer (some ⟨q,1+pl f n*5,none⟩))∧∃m,w'=w.drewN m:=by
 have HF:=Vh hf
 have HN:=Vh hn
 have HQ:=Vh hq
 have g1:((pl f n:Nat):Int)<16:=by have:=pl_lt f n;omega
 have g0:(0:Int)≤((pl f n:Nat):Int):=by omega
 clear hf hn
 go_enter Tryz.func127,Tryz.ntmps127
 go_wp2_with fail
 go_quiet (first |(go_at_call 178;exact quiet_same12 (splace_at HF.out HN.out HQ.out)))
 go_wp2
 go_ret
 exact ⟨rfl,_,rfl⟩
theorem sat_c {w:World} {q:Nat} {room:Int} {r:Ring} {f c n:Nat} (hf:f<16) (hn:n≤1000) (hq:w.heap[q]? =some (.cells (bfc room r f c) 168 (0,0))):Calls Tryz.prog 127 #[.pointer (some ⟨q,0,none⟩),.int .i64 n] w fun e w'=>e=.returned (.pointer (some ⟨q,1+pl f n*5,none⟩))∧Chg [] w w':=
 (sat_at hf hn hq).mono fun _ _ ⟨he,m,hm⟩=>⟨he,hm▸(Chg.refl [] w).drewN m⟩
theorem Qh2 (e:Se) (w:World):Calls Tryz.prog 225 #[.agg (sec e)] w fun v w'=>v=.returned (.bool (Qb9 e))∧Chg [] w w':=by
 cases h1:Qb5 e.li 0 63
 ·rw [show Qb9 e=false by simp [Qb9,h1]]
  go_enter Tryz.func225,Tryz.ntmps225
  exact Tz33
 cases h2:e.sn
 case true=>
  rw [show Qb9 e=false by simp [Qb9,h2]]
  go_enter Tryz.func225,Tryz.ntmps225
  exact Tz33
 by_cases k9:e.kd=9
 ·rw [show Qb9 e=Qb5 e.wo 0 7 by simp [Qb9,h1,h2,k9]]
  have t9:(e.kd==9)=true:=by simp [k9]
  clear k9
  go_enter Tryz.func225,Tryz.ntmps225
  exact Tz33
 have t9:(e.kd==9)=false:=by simpa using k9
 by_cases k3:e.kd=12∨e.kd=13∨e.kd=14
 ·rw [show Qb9 e=(e.wo==0&&e.va==0) by
   rcases k3 with k|k|k<;>simp [Qb9,h1,h2,k]]
  have h3:(e.kd==12)=true∨(e.kd==12)=false∧(e.kd==13)=true∨(e.kd==12)=false∧(e.kd==13)=false∧(e.kd==14)=true:=by
   rcases k3 with k|k|k<;>simp [k]
  clear k3 k9
  rcases h3 with t|⟨t,u⟩|⟨t,u,v⟩
  all_goals
   cases h4:(e.wo==0)
   ·go_enter Tryz.func225,Tryz.ntmps225
    exact Tz33
   ·go_enter Tryz.func225,Tryz.ntmps225
    exact Tz33
 have ⟨t12,t13,t14⟩:(e.kd==12)=false∧(e.kd==13)=false∧(e.kd==14)=false:=by simpa using k3
 rw [show Qb9 e=false by simp [Qb9,t9,t12,t13,t14]]
 clear k3 k9
 go_enter Tryz.func225,Tryz.ntmps225
 exact Tz33
theorem Qav {fn:Func} {p t:Tmp} (h:fn.results=#[.cell p 165,.tmp t]) (tmps:Array Value) (w:World) (b:Nat) (s:Se) (fr:Nat×Nat)
 (hp:tmps.getD p undef=.pointer (some ⟨b,0,none⟩)) (hb:w.heap[b]? =some (.cells (sec s) 165 fr)) (x:Value) (hx:tmps.getD t undef=x):
 (results fn tmps).run Tryz.prog w=.ok (.tuple #[.agg (sec s),x]) w:=by
 subst hx
 have hp':tmps[p]?.getD undef=.pointer (some ⟨b,0,none⟩):=by simpa using hp
 have:=run_loadVar_row (P:=Tryz.prog) w b 165 165 (sec s) fr _ hb Tryz.underlying165 rfl (by rw [Q5];kernel_rfl)
 simp [results,h,hp',asAddr,this]
def Buf (w:World) (q room:Nat) (es:List Se):Prop:=
 ∃(r:Ring) (f:Nat),w.heap[q]? =some (.cells (bfc room r f es.length) 168 (0,0))∧f<16∧(∀n e,es[n]? =some e→r.get (pl f n)=e)∧es.length≤room∧1≤room∧room≤16
theorem Buf.keep {w w':World} {q room:Nat} {es:List Se} {l:List Nat} (h:Buf w q room es) (hc:Chg l w w') (hq:q∉l):Buf w' q room es:=by
 obtain ⟨r,f,h1,h2⟩:=h
 exact ⟨r,f,hc.keep h1 hq,h2⟩
theorem Buf.oldq {w:World} {q room:Nat} {es:List Se} (h:Buf w q room es):Old w q:=by
 obtain ⟨r,f,h1,h2⟩:=h
 exact old h1
theorem Buf.le {w:World} {q room:Nat} {es:List Se} (h:Buf w q room es):es.length≤room∧1≤room∧room≤16:=by
 obtain ⟨r,f,_,_,_,h2⟩:=h
 exact h2
theorem snew_buf (room:Nat) (w:World) (h1:1≤room) (h2:room≤16):Calls Tryz.prog 46 #[.int .i64 room] w fun e w'=>∃q,e=.returned (.tuple #[.pointer (some ⟨q,0,none⟩),.int .i64 0])∧w.heap.size≤q∧Chg [] w w'∧Buf w' q room []:=
 (snew_ok room w (by simp [Qb5];omega)).mono fun _ _ ⟨he,hw⟩=>by
  subst hw
  exact ⟨w.heap.size,he,Nat.le_refl _,(Chg.refl _ _).alloc _,ringZ,0,by simp,by omega,by simp,by simp,h1,h2⟩
theorem Qh1 {w:World} {q room:Nat} {es:List Se} (h:Buf w q room es):Calls Tryz.prog 126 #[.pointer (some ⟨q,0,none⟩)] w fun e w'=>e=.returned (.int .i64 es.length)∧w=w':=by
 obtain ⟨r,f,h1,_⟩:=h
 exact slen_at h1
def BufTo (w:World) (q room:Nat) (es:List Se) (v:Value) (e:Ending) (w':World):Prop:=e=.returned v∧Chg [q] w w'∧Buf w' q room es
theorem ring_push {r:Ring} {f:Nat} {es:List Se} {x:Se} (h:∀n e,es[n]? =some e→r.get (pl f n)=e) (hl:es.length<16):∀n e,(es++[x])[n]? =some e→(r.put (pl f es.length) x).get (pl f n)=e:=by
 intro n e hn
 rcases Nat.lt_trichotomy n es.length with h1|h1|h1
 ·rw [List.getElem?_append_left h1] at hn
  rw [Ring.put_other _ (Ne.symm (pl_ne h1 (by omega)))]
  exact h n e hn
 ·subst h1
  simp at hn
  rw [Ring.put_same _ (pl_lt _ _),hn]
 ·rw [List.getElem?_eq_none (by simp;omega)] at hn
  cases hn
theorem spush_ok {w:World} {q room:Nat} {es:List Se} (x:Se) (hb:Buf w q room es):Calls Tryz.prog 194 #[.pointer (some ⟨q,0,none⟩),.agg (sec x)] w (BufTo w q room (sbE room es x) (.int .i64 (sbV room es x))):=by
 have HB:=Vh hb
 have oq:=hb.oldq
 clear hb
 have hx:(w.alloc (.cells (sec x) 165)).heap[w.heap.size]? =some (.cells (sec x) 165 (0,0)):=by simp
 have HC:=Vh ((Chg.refl [] w).alloc (.cells (sec x) 165))
 have ON:=Vh (show w.heap.size≠q from by have:=oq.lt;omega)
 cases hg:Qb9 x
 ·rw [show sbE room es x=es by simp [sbE,hg],show sbV room es x=11 by simp [sbV,hg]]
  go_enter Tryz.func194,Tryz.ntmps194
  go_wp2_with fail
  refine (Qh2 x _).mono ?_
  rintro e w1 ⟨rfl,c1⟩
  rw [hg]
  go_wp2_with fail
  go_ret
  have:=HC.out.trans c1
  exact ⟨rfl,this.mono (by simp),HB.out.keep this (by simp)⟩
 by_cases hr:room≤es.length
 ·rw [show sbE room es x=es by simp [sbE,hg,hr],show sbV room es x=13 by simp [sbV,hg,hr]]
  have t3:decide (room≤es.length)=true:=by simpa using hr
  clear hr
  go_enter Tryz.func194,Tryz.ntmps194
  go_wp2_with fail
  refine (Qh2 x _).mono ?_
  rintro e w1 ⟨rfl,c1⟩
  rw [hg]
  have HC1:=Vh (HC.out.trans c1)
  obtain ⟨r,f,hq,_⟩:=HB.out.keep HC1.out (by simp)
  clear c1
  go_wp2_with fail
  go_quiet (fail)
  go_wp2_with fail
  go_ret
  have:=HC1.out.drewN nq
  exact ⟨rfl,this.mono (by simp),HB.out.keep this (by simp)⟩
 ·rw [show sbE room es x=es++[x] by simp [sbE,hg,hr],show sbV room es x=0 by simp [sbV,hg,hr]]
  have t3:decide (room≤es.length)=false:=by simpa using hr
  have HR:=Vh hr
  clear hr
  go_enter Tryz.func194,Tryz.ntmps194
  go_wp2_with fail
  refine (Qh2 x _).mono ?_
  rintro e w1 ⟨rfl,c1⟩
  rw [hg]
  have hx1:=c1.keep hx (by simp)
  have HC1:=Vh (HC.out.trans c1)
  clear c1 hx
  generalize w.heap.size=p at hx1 ON ⊢
  obtain ⟨r,f,hq,hf,hall,hle⟩:=HB.out.keep HC1.out (by simp)
  have HF:=Vh hf
  have HA:=Vh hall
  have HL:=Vh hle
  have hn:es.length≤1000:=by omega
  have g2:(es.length:Int)≤1000:=by omega
  have HN:=Vh hn
  clear hf hall hle hn
  go_wp2_with fail
  go_quiet (fail)
  go_wp2_with fail
  have c2:=(Chg.refl [] w1).drewN nq
  have hq2:=c2.keep hq (by simp)
  have hx2:=c2.keep hx1 (by simp)
  have HC2:=Vh (HC1.out.trans c2)
  clear hq hx1 c2
  generalize w1.drewN nq=w2 at hq2 hx2 HC2 ⊢
  have oq2:=old hq2
  have ox2:=old hx2
  go_region_law
   (first |(go_simp;go_at_call 127;refine (sat_c HF.out HN.out ((Chg.refl [] w2).drew.keep hq2 (by simp))).mono ?_;rintro e w3 ⟨rfl,c3⟩;have hq3:=(((Chg.refl [] w2).drew).trans c3).keep hq2 (by simp);have hx3:=(((Chg.refl [] w2).drew).trans c3).keep hx2 (by simp)))
  all_goals
   have hq4:(putRow w3 q (1+pl f es.length*5) (sec x)).heap[q]? =some (.cells (bfc room (r.put (pl f es.length) x) f es.length) 168 (0,0)):=by
    rw [Qc _ _ _ _ _ (by rw [hq3,Q5];exact Qgt _ _ _ _ _ _),if_pos rfl,hq3,Qfa]
   have HC4:=Vh (((HC2.out.trans (((Chg.refl [] w2).drew).trans c3)).mono (l':=[q]) (by simp)).putRow q (1+pl f es.length*5) (sec x) (.inl (by simp)))
   clear hq2 hx2 hq3 hx3 c3 ox2 oq2
   generalize putRow w3 q (1+pl f es.length*5) (sec x)=w4 at hq4 HC4 ⊢
   go_wp2_with fail
   go_ret
   refine ⟨rfl,HC4.out.setCell _ _ _ (.inl (by simp)),r.put (pl f es.length) x,f,?_,HF.out,ring_push HA.out (by have:=HR.out;have:=HL.out;omega),?_,HL.out.2.1,HL.out.2.2⟩
   ·rw [heap_setCell,if_pos rfl,hq4,Qf]
    have:=Qaa room (r.put (pl f es.length) x) f es.length (es.length+1)
    rw [show ((es.length:Int)+1)=((es.length+1:Nat):Int) by omega,this,List.length_append]
    rfl
   ·have:=HR.out
    rw [List.length_append]
    simp only [List.length_cons,List.length_nil]
    omega
theorem shead_nil (w:World):Calls Tryz.prog 108 #[.pointer none] w fun e w'=>e=.returned (.tuple #[.agg (sec seZ),.bool false])∧Chg [] w w':=by
 go_enter Tryz.func108,Tryz.ntmps108
 go_wp2_with (go_at_call 126;refine (slen_nil _).mono ?_;rintro e w' ⟨rfl,rfl⟩)
 refine bodyPost_ret (v:=.tuple #[.agg (sec seZ),.bool false]) ?_ (by rfl) ?_
 ·exact Qav (by rfl) _ _ w.heap.size seZ (0,0) (by rfl) (by simp [*];try rfl) _ (by rfl)
 exact ⟨rfl,(Chg.refl _ _).alloc _⟩
theorem shead_ok {w:World} {q room:Nat} {es:List Se} (hb:Buf w q room es):Calls Tryz.prog 108 #[.pointer (some ⟨q,0,none⟩)] w fun e w'=>e=.returned (.tuple #[.agg (sec (hdE es)),.bool (hdB es)])∧Chg [] w w':=by
 have HB:=Vh (hb.keep ((Chg.refl [] w).alloc (.cells (sec seZ) 165)) (by simp))
 have oq:=hb.oldq
 clear hb
 rcases es with _|⟨x,es⟩
 ·go_enter Tryz.func108,Tryz.ntmps108
  go_wp2_with (go_at_call 126;refine (Qh1 HB.out).mono ?_;rintro e w' ⟨rfl,rfl⟩)
  refine bodyPost_ret (v:=.tuple #[.agg (sec seZ),.bool false]) ?_ (by rfl) ?_
  ·exact Qav (by rfl) _ _ w.heap.size seZ (0,0) (by rfl) (by simp [*];try rfl) _ (by rfl)
  exact ⟨rfl,(Chg.refl _ _).alloc _⟩
 ·have t0:(((x::es).length:Int)==0)=false:=by simp;omega
  generalize hes:x::es=ys at HB t0
  have HE:=Vh (show ys[0]? =some x by rw [←hes];rfl)
  have hx:(w.alloc (.cells (sec seZ) 165)).heap[w.heap.size]? =some (.cells (sec seZ) 165 (0,0)):=by simp
  have HC:=Vh ((Chg.refl [] w).alloc (.cells (sec seZ) 165))
  rw [show hdE ys=x by rw [←hes];rfl,show hdB ys=true by rw [←hes];rfl]
  clear hes
  go_enter Tryz.func108,Tryz.ntmps108
  go_wp2_with fail
  generalize hp:w.heap.size=p at hx ⊢
  have HP:=Vh hp
  clear hp
  generalize w.alloc (.cells (sec seZ) 165)=w1 at HB hx HC ⊢
  refine (Qh1 HB.out).mono ?_
  rintro e w' ⟨rfl,rfl⟩
  go_wp2_with fail
  obtain ⟨r,f,hq,hf,hall,_⟩:=HB.out
  refine (sat_c (n:=0) hf (by omega) hq).mono ?_
  rintro e w2 ⟨rfl,c2⟩
  have hg:=hall 0 x HE.out
  have hq2:=c2.keep hq (by simp)
  have hx2:=c2.keep hx (by simp)
  have HC2:=Vh (HC.out.trans c2)
  have oq2:=old hq2
  have ox2:=old hx2
  have hpart:=Qf3 room r f ys.length 168 (0,0) 0
  rw [hg] at hpart
  clear hq hx c2 hall hf hg
  go_wp2_with fail
  refine bodyPost_ret (v:=.tuple #[.agg (sec x),.bool true]) ?_ (by rfl) ?_
  ·exact Qav (by rfl) _ _ p x (0,0) (by rfl) (by simp [*];try rfl) _ (by rfl)
  exact ⟨rfl,HC2.out.putRow _ _ _ (.inr (by have:=HP.out;omega))⟩
end
section
attribute [local go_sem ↓] Qv QF Qx QP QG Qs X7 Xl loadBuf storeBuf Qk Qh heap_alloc Ql heap_setCell Qc X1 X0 XW XX XY bfc_room bfc_first bfc_count
attribute [local go_sem] Qb Qa Qe Qi Qd Qg Qf XV QB Qw QN QL QM Q6 QJ QA Qr QD fit_pl QX QI Qq QC Qp Qj Qo Qn Q5 Xm Xn JC XZ ZU ZT ZS ZR X6 X5 X2 X3 X4 Qdc Qbj Qaa Qgt Qf3 Qfa Qf2
attribute [local simp ↓] Qk Qh heap_alloc Ql heap_setCell Qc
attribute [local simp] Qb Qa Qe Qi Qd Qg Qf Qr fit_pl Qj Qo Qn Q5 Qdc Qbj Qaa Qgt Qfa Qf2
attribute [local go_sem ↓] zbuf
attribute [local go_sem] Qi1 bfc_ne
theorem ring_pop {r:Ring} {f:Nat} {x:Se} {es:List Se} (h:∀n e,(x::es)[n]? =some e→r.get (pl f n)=e) (hl:(x::es).length≤16):∀n e,es[n]? =some e→(r.put (pl f 0) seZ).get (pl (pl f 1) n)=e:=by
 intro n e hn
 have h1:=(Vg hn).1
 simp only [List.length_cons] at hl
 rw [pl_next,Ring.put_other _ (pl_ne (by omega) (by omega))]
 exact h (n+1) e (by simpa using hn)
theorem spop_nil (w:World):Calls Tryz.prog 144 #[.pointer none] w fun e w'=>e=.returned (.tuple #[.agg (sec seZ),.bool false])∧Chg [] w w':=by
 go_enter Tryz.func144,Tryz.ntmps144
 go_wp2_with fail
 have hx:(w.alloc (.cells (sec seZ) 165)).heap[w.heap.size]? =some (.cells (sec seZ) 165 (0,0)):=by simp
 have HC:=Vh ((Chg.refl [] w).alloc (.cells (sec seZ) 165))
 generalize hp:w.heap.size=p at hx ⊢
 have HP:=Vh hp
 clear hp
 generalize w.alloc (.cells (sec seZ) 165)=w1 at hx HC ⊢
 refine (shead_nil w1).mono ?_
 rintro e w2 ⟨rfl,c2⟩
 have hx2:=c2.keep hx (by simp)
 have ox2:=old hx2
 have HC2:=Vh (HC.out.trans c2)
 clear hx c2
 go_wp2_with fail
 refine bodyPost_ret (v:=.tuple #[.agg (sec seZ),.bool false]) ?_ (by rfl) ?_
 ·exact Qav (by rfl) _ _ p seZ (0,0) (by rfl) (by simp [*];try rfl) _ (by rfl)
 exact ⟨rfl,(HC2.out.alloc _).putRow _ _ _ (.inr (by have:=HP.out;omega))⟩
theorem spop_ok {w:World} {q room:Nat} {es:List Se} (hb:Buf w q room es):Calls Tryz.prog 144 #[.pointer (some ⟨q,0,none⟩)] w (BufTo w q room es.tail (.tuple #[.agg (sec (hdE es)),.bool (hdB es)])):=by
 have HB:=Vh (hb.keep ((Chg.refl [] w).alloc (.cells (sec seZ) 165)) (by simp))
 have oq:=hb.oldq
 clear hb
 have hx:(w.alloc (.cells (sec seZ) 165)).heap[w.heap.size]? =some (.cells (sec seZ) 165 (0,0)):=by simp
 have HC:=Vh ((Chg.refl [] w).alloc (.cells (sec seZ) 165))
 have HPQ:=Vh (show w.heap.size≠q from by have:=oq.lt;omega)
 go_enter Tryz.func144,Tryz.ntmps144
 go_wp2_with fail
 generalize hp:w.heap.size=p at hx HPQ ⊢
 have HP:=Vh hp
 clear hp
 generalize w.alloc (.cells (sec seZ) 165)=w1 at HB hx HC ⊢
 refine (shead_ok HB.out).mono ?_
 rintro e w2 ⟨rfl,c2⟩
 have hx2:=c2.keep hx (by simp)
 have ox2:=old hx2
 have HC2:=Vh (HC.out.trans c2)
 have HB2:=Vh (HB.out.keep c2 (by simp))
 have oq2:=HB2.out.oldq
 clear hx c2 HB
 rcases es with _|⟨x,es⟩
 ·rw [show hdE []=seZ from rfl,show hdB []=false from rfl]
  go_wp2_with fail
  refine bodyPost_ret (v:=.tuple #[.agg (sec seZ),.bool false]) ?_ (by rfl) ?_
  ·exact Qav (by rfl) _ _ p seZ (0,0) (by rfl) (by simp [*];try rfl) _ (by rfl)
  have hc:=((Chg.refl [] w2).alloc (.cells (sec seZ) 165))
  have hc2:Chg [p] (w2.alloc (.cells (sec seZ) 165)) (putRow (w2.alloc (.cells (sec seZ) 165)) p 0 (sec seZ)):=(Chg.refl _ _).putRow _ _ _ (.inl (by simp))
  refine ⟨rfl,(((HC2.out.trans hc).mono (l':=[q]) (by simp)).putRow _ _ _ (.inr (by have:=HP.out;omega))),(HB2.out.keep hc (by simp)).keep hc2 (by simpa using Ne.symm HPQ.out)⟩
 ·rw [show hdE (x::es)=x from rfl,show hdB (x::es)=true from rfl,show (x::es).tail=es from rfl]
  have hy:(w2.alloc (.cells (sec x) 165)).heap[w2.heap.size]? =some (.cells (sec x) 165 (0,0)):=by simp
  have c3:=(Chg.refl [] w2).alloc (.cells (sec x) 165)
  have hx3:=c3.keep hx2 (by simp)
  have HB3:=Vh (HB2.out.keep c3 (by simp))
  have HC3:=Vh (HC2.out.trans c3)
  have HPY:=Vh (show w2.heap.size≠p from by have:=ox2.lt;omega)
  have HQY:=Vh (show w2.heap.size≠q from by have:=oq2.lt;omega)
  clear hx2 c3 HB2 HC2
  go_wp2_with fail
  generalize w2.heap.size=y at hy HPY HQY ⊢
  generalize w2.alloc (.cells (sec x) 165)=w3 at hx3 hy HB3 HC3 ⊢
  obtain ⟨r,f,hq,hf,hall,hle⟩:=HB3.out
  have HF:=Vh hf
  have HA:=Vh (ring_pop hall (by omega))
  have HL:=Vh hle
  clear hf hall hle
  refine (sat_c (n:=0) HF.out (by omega) hq).mono ?_
  rintro e w4 ⟨rfl,c4⟩
  have hq4:=c4.keep hq (by simp)
  have hx4:=c4.keep hx3 (by simp)
  have hy4:=c4.keep hy (by simp)
  have HC4:=Vh (HC3.out.trans c4)
  have oq4:=old hq4
  have ox4:=old hx4
  have oy4:=old hy4
  clear hq hx3 hy c4
  go_wp2_with fail
  have c5:Chg [q] w4 (putRow w4 q (1+pl f 0*5) (sec seZ)):=(Chg.refl [q] w4).putRow _ _ _ (.inl (by simp))
  have hq5:(putRow w4 q (1+pl f 0*5) (sec seZ)).heap[q]? =some (.cells (bfc room (r.put (pl f 0) seZ) f (x::es).length) 168 (0,0)):=by
   rw [Qc _ _ _ _ _ (by rw [hq4,Q5];exact Qgt _ _ _ _ _ _),if_pos rfl,hq4,Qfa]
  have hx5:=c5.keep hx4 (by simpa using HPQ.out)
  have hy5:=c5.keep hy4 (by simpa using HQY.out)
  have HC5:=Vh ((HC4.out.mono (l':=[q]) (by simp)).trans c5)
  clear hq4 hx4 hy4 c5 oq4 ox4 oy4
  generalize putRow w4 q (1+pl f 0*5) (sec seZ)=w5 at hq5 hx5 hy5 HC5 ⊢
  refine (splace_at (n:=1) HF.out (by omega) hq5).mono ?_
  rintro e w6 ⟨rfl,rfl⟩
  have oq5:=old hq5
  have ox5:=old hx5
  have oy5:=old hy5
  have ne1:(p=q)=False:=eq_false HPQ.out
  have ne2:(y=q)=False:=eq_false HQY.out
  have ne3:(y=p)=False:=eq_false HPY.out
  have hlen:(((x::es).length:Int)-1)=((es.length:Nat):Int):=by simp
  have hlb:(((x::es).length:Nat):Int)≤16:=by have:=HL.out;omega
  have hlb0:(1:Int)≤(((x::es).length:Nat):Int):=by rw [List.length_cons];omega
  have HLE:=Vh (show es.length≤(x::es).length by simp)
  generalize (x::es).length=m at hq5 hlen hlb hlb0 HL HLE ⊢
  go_wp2_with fail
  have h6:((w5.setCell ⟨q,81,none⟩ (.int .i64 (pl f 1))).setCell ⟨q,82,none⟩ (.int .i64 es.length)).heap[q]? =some (.cells (bfc room (r.put (pl f 0) seZ) (pl f 1) es.length) 168 (0,0)):=by
   rw [heap_setCell,if_pos rfl,heap_setCell,if_pos rfl,hq5,Qf,Qf,Qbj,Qaa]
  have c6:Chg [q] w5 ((w5.setCell ⟨q,81,none⟩ (.int .i64 (pl f 1))).setCell ⟨q,82,none⟩ (.int .i64 es.length)):=((Chg.refl [q] w5).setCell _ _ _ (.inl (by simp))).setCell _ _ _ (.inl (by simp))
  have hx6:=c6.keep hx5 (by simpa using HPQ.out)
  generalize (w5.setCell ⟨q,81,none⟩ (.int .i64 (pl f 1))).setCell ⟨q,82,none⟩ (.int .i64 es.length)=w6 at h6 c6 hx6 ⊢
  have c7:Chg [p] w6 (putRow w6 p 0 (sec x)):=(Chg.refl [p] w6).putRow _ _ _ (.inl (by simp))
  refine bodyPost_ret (v:=.tuple #[.agg (sec x),.bool true]) ?_ (by rfl) ?_
  ·exact Qav (by rfl) _ _ p x (0,0) (by rfl) (by simp [hx6];try rfl) _ (by rfl)
  refine ⟨rfl,(HC5.out.trans c6).trans' c7 (by have:=HP.out;simp;omega),r.put (pl f 0) seZ,pl f 1,c7.keep h6 (by simpa using Ne.symm HPQ.out),pl_lt _ _,HA.out,by have:=HL.out;have:=HLE.out;show es.length≤room;omega,HL.out.2.1,HL.out.2.2⟩
theorem ring_send {r:Ring} {f:Nat} {x:Se} {es:List Se} (h:∀n e,(x::es)[n]? =some e→r.get (pl f n)=e) (hl:(x::es).length≤16):∀n e,(sent x::es)[n]? =some e→(r.put (pl f 0) (sent (r.get (pl f 0)))).get (pl f n)=e:=by
 intro n e hn
 have h0:=h 0 x rfl
 rcases n with _|n
 ·rw [Ring.put_same _ (pl_lt _ _),h0]
  simpa [sent] using hn
 ·have h1:=(Vg hn).1
  simp only [List.length_cons] at hl h1
  rw [Ring.put_other _ (pl_ne (by omega) (by omega))]
  exact h (n+1) e (by simpa using hn)
theorem ssend_ok {w:World} {q room:Nat} {es:List Se} (hb:Buf w q room es):Calls Tryz.prog 147 #[.pointer (some ⟨q,0,none⟩)] w (BufTo w q room (sdE es) (.tuple #[])):=by
 have HB:=Vh hb
 clear hb
 go_enter Tryz.func147,Tryz.ntmps147
 go_wp2_with fail
 refine (shead_ok HB.out).mono ?_
 rintro e w2 ⟨rfl,c2⟩
 have HB2:=Vh (HB.out.keep c2 (by simp))
 have oq2:=HB2.out.oldq
 have HC2:=Vh c2
 clear c2 HB
 rcases es with _|⟨x,es⟩
 ·rw [show hdE []=seZ from rfl,show hdB []=false from rfl]
  go_wp2_with fail
  go_end0
  have hc:=((Chg.refl [] w2).alloc (.cells (sec seZ) 165))
  exact ⟨rfl,(HC2.out.trans hc).mono (by simp),HB2.out.keep hc (by simp)⟩
 ·rw [show hdE (x::es)=x from rfl,show hdB (x::es)=true from rfl]
  by_cases h14:x.kd=14
  ·have HS:=Vh (show sdE (x::es)=sent x::es by simp [sdE,h14])
   have t14:(x.kd==14)=true:=by simp [h14]
   have hy:(w2.alloc (.cells (sec x) 165)).heap[w2.heap.size]? =some (.cells (sec x) 165 (0,0)):=by simp
   have c3:=(Chg.refl [] w2).alloc (.cells (sec x) 165)
   have HB3:=Vh (HB2.out.keep c3 (by simp))
   have HC3:=Vh (HC2.out.trans c3)
   clear c3 HB2 HC2 h14
   go_wp2_with fail
   generalize w2.heap.size=y at hy ⊢
   generalize w2.alloc (.cells (sec x) 165)=w3 at hy HB3 HC3 ⊢
   obtain ⟨r,f,hq,hf,hall,hle⟩:=HB3.out
   have HF:=Vh hf
   have HA:=Vh (ring_send hall (by omega))
   have HL:=Vh hle
   clear hf hall hle hy
   refine (sat_c (n:=0) HF.out (by omega) hq).mono ?_
   rintro e w4 ⟨rfl,c4⟩
   have hq4:=c4.keep hq (by simp)
   have HC4:=Vh (HC3.out.trans c4)
   have oq4:=old hq4
   clear hq c4
   generalize hm:(x::es).length=m at hq4 HL
   have HM:=Vh (show (sent x::es).length=m from hm)
   clear hm
   have h83:(bfc room r f m)[1+pl f 0*5+4]? =some (.bool (r.get (pl f 0)).sn):=bfc_sn _ _ _ _ _
   go_wp2_with fail
   go_end0
   refine ⟨rfl,(HC4.out.mono (l':=[q]) (by simp)).setCell _ _ _ (.inl (by simp)),?_⟩
   rw [HS.out]
   refine ⟨r.put (pl f 0) (sent (r.get (pl f 0))),f,?_,HF.out,HA.out,by rw [HM.out];exact HL.out⟩
   rw [heap_setCell,if_pos rfl,hq4,Qf2,HM.out]
  ·have HS:=Vh (show sdE (x::es)=x::es by simp [sdE,h14])
   have t14:(x.kd==14)=false:=by simpa using h14
   clear h14
   go_wp2_with fail
   go_end0
   have hc:=((Chg.refl [] w2).alloc (.cells (sec x) 165))
   exact ⟨rfl,(HC2.out.trans hc).mono (by simp),by rw [HS.out];exact HB2.out.keep hc (by simp)⟩
theorem sfind_ok {w:World} {q room:Nat} {es:List Se} (li wo:Int) (hb:Buf w q room es):Calls Tryz.prog 192 #[.pointer (some ⟨q,0,none⟩),.int .i64 li,.int .i64 wo] w fun e w'=>e=.returned (.tuple #[.int .u64 (fdV es li wo),.bool (fdB es li wo)])∧Chg [] w w':=by
 have HB:=Vh hb
 have hl16:(es.length:Int)≤16:=by have:=hb.le;omega
 clear hb
 go_enter Tryz.func192,Tryz.ntmps192
 go_wp2_with (go_at_call 126;refine (Qh1 HB.out).mono ?_;rintro e w' ⟨rfl,rfl⟩)
 go_loopw [8] (fun x wr=>∃(k:Nat) (z:Int),k≤es.length∧z=(k:Int)-1∧x=.int .i64 z∧Chg [] w wr∧∀y∈es.drop k,isAt li wo y=false) (fun x _=>(intOf x+1).toNat)
 case atStart=>exact ⟨es.length,_,by omega,rfl,rfl,Chg.refl _ _,by simp⟩
 case round=>
  obtain ⟨k,z,hk,hz,rfl,hc,hno⟩:=hrel
  have HNO:=Vh hno
  have HC:=Vh hc
  clear hno hc
  rcases k with _|j
  ·obtain rfl:z= -1:=by omega
   clear hz
   have hn:fdO es li wo=none:=fdO_none (by simpa using HNO.out)
   have HH:=Vh hn
   clear hn
   go_wp2_with fail
   go_ret2
   have hn:=HH.out
   exact ⟨by rw [show fdV es li wo=0 by simp [fdV,hn],show fdB es li wo=false by simp [fdB,hn]];rfl,HC.out⟩
  ·obtain rfl:z=(j:Int):=by omega
   clear hz
   obtain ⟨e,he⟩:∃e,es[j]? =some e:=⟨es[j],List.getElem?_eq_getElem hk⟩
   have HE:=Vh he
   have g0:(0:Int)≤(j:Int):=by omega
   have g1:(j:Int)≤16:=by omega
   have HJ:=Vh hk
   clear he hk
   obtain ⟨r,f,hq,hf,hall,hle⟩:=HB.out.keep HC.out (by simp)
   have hget:=hall j e HE.out
   have HF:=Vh hf
   clear hall hle hf
   go_wp2_with fail
   refine (sat_c HF.out (by omega) hq).mono ?_
   rintro a w2 ⟨rfl,c2⟩
   have hq2:=c2.keep hq (by simp)
   have oq2:=old hq2
   have HC2:=Vh (HC.out.trans c2)
   have b0:(bfc room r f es.length)[1+pl f j*5]? =some (.int .i64 e.kd):=hget▸bfc_kd _ _ _ _ _
   have b1:(bfc room r f es.length)[1+pl f j*5+1]? =some (.int .i64 e.li):=hget▸bfc_li _ _ _ _ _
   have b2:(bfc room r f es.length)[1+pl f j*5+2]? =some (.int .i64 e.wo):=hget▸bfc_wo _ _ _ _ _
   have b3:(bfc room r f es.length)[1+pl f j*5+3]? =some (.int .u64 e.va):=hget▸bfc_va _ _ _ _ _
   clear hq c2 hget
   cases hat:isAt li wo e
   ·have HN2:=Vh (drop_all12 HE.out hat HNO.out)
    have hp:(e.kd==9)=false∨(e.kd==9)=true∧(e.li==li)=false∨(e.kd==9)=true∧(e.li==li)=true∧(e.wo==wo)=false:=by
     unfold isAt at hat
     cases h1:(e.kd==9)<;>cases h2:(e.li==li)<;>cases h3:(e.wo==wo)<;>simp_all
    clear hat
    rcases hp with t|⟨t,t1⟩|⟨t,t1,t2⟩
    all_goals
     go_wp2_with fail
     go_roundw
     case rel=>exact ⟨j,_,by have:=HJ.out;omega,rfl,rfl,HC2.out,HN2.out⟩
     case measure=>simp [intOf]
   ·have hn:fdO es li wo=some e:=fdO_some HE.out hat HNO.out
    have HH:=Vh hn
    obtain ⟨t,t1,t2⟩:(e.kd==9)=true∧(e.li==li)=true∧(e.wo==wo)=true:=by simpa [isAt] using hat
    clear hn hat
    go_wp2_with fail
    go_ret2
    have hn:=HH.out
    exact ⟨by rw [show fdV es li wo=e.va by simp [fdV,hn],show fdB es li wo=true by simp [fdB,hn]];rfl,HC2.out⟩
theorem se_info:(Tryz.prog.info? 165).map (fun i=>(i.zero,i.size,i.bytes))=some (some sezV,5,40):=by kernel_rfl
theorem made_se (n:Nat):madeCells sezV.cells (n*5)=sq Se.enc (List.replicate n seZ) []:=by
 apply Array.ext
 ·rw [JD Se.len]
  simp [madeCells]
 ·intro k h1 h2
  have hk:k<n*5:=by simpa [madeCells] using h1
  obtain ⟨i,j,hj,rfl⟩:∃i j,j<5∧k=i*5+j:=⟨k / 5,k % 5,Nat.mod_lt _ (by omega),by omega⟩
  have hi:i<n:=by omega
  have h3:=JU (enc:=Se.enc) Se.len (xs:=List.replicate n seZ) (i:=i) (a:=seZ) (by simp [hi]) [] j hj
  rw [Array.getElem?_eq_getElem h2] at h3
  have h5:j=0∨j=1∨j=2∨j=3∨j=4:=by omega
  have h6:(i*5+j) % 5=j:=by omega
  have h7:sezV.cells.size=5:=sezV_size
  apply Option.some.inj
  rw [h3]
  simp only [madeCells,Array.getElem_map,Array.getElem_range,h7,h6]
  rcases h5 with rfl|rfl|rfl|rfl|rfl<;>rfl
theorem run_make_se (w:World) (n:Nat) (hn:n≤1000):mkR Tryz.prog 139 (.int .i64 n) (.int .i64 n) w=.ok (.slice (some ⟨w.heap.size,0,none⟩) n n) (w.alloc (.cells (sq Se.enc (List.replicate n seZ) []) 165)):=by
 obtain ⟨i0,hi0,hz0,hz1,hz2⟩:=info_parts se_info
 have:=run_make (P:=Tryz.prog) w 139 165 i0 _ Tryz.underlying139 hi0 hz0 .i64 .i64 n n (by omega) (by omega) (by rw [hz2];omega) (by omega)
 simp only [Int.toNat_natCast,hz1] at this
 rw [←made_se]
 exact this
def Qgo (es:List Se) (k:Nat):List Se:=es.take k++List.replicate (es.length-k) seZ
theorem fillE_zero (es:List Se):Qgo es 0=List.replicate es.length seZ:=by simp [Qgo]
theorem fillE_all (es:List Se):Qgo es es.length=es:=by simp [Qgo]
theorem fillE_length (es:List Se) (k:Nat) (h:k≤es.length):(Qgo es k).length=es.length:=by simp [Qgo];omega
theorem fillE_succ {es:List Se} {k:Nat} {e:Se} (h:es[k]? =some e):Zz (Qgo es k) k [e]=Qgo es (k+1):=by
 obtain ⟨hk,rfl⟩:=Vg h
 unfold Qgo Zz
 have e1:(es.take k).length=k:=by simp;omega
 obtain ⟨m,hm⟩:∃m,es.length-k=m+1:=⟨es.length-k-1,by omega⟩
 rw [hm,show es.length-(k+1)=m by omega,List.take_append_of_le_length (by omega),List.take_of_length_le (by omega),List.take_succ_eq_append_getElem hk]
 rw [List.drop_append,List.drop_eq_nil_of_le (by rw [e1];simp),e1]
 simp
def SeTold (w:World) (es:List Se) (e:Ending) (w':World):Prop:=∃b,e=.returned (.slice (some ⟨b,0,none⟩) es.length es.length)∧w.heap.size≤b∧Chg [] w w'∧w'.heap[b]? =some (.cells (sq Se.enc es []) 165 (0,0))
theorem sall_ok {w:World} {q room:Nat} {es:List Se} (hb:Buf w q room es):Calls Tryz.prog 92 #[.pointer (some ⟨q,0,none⟩)] w (SeTold w es):=by
 have HB:=Vh hb
 have oq:=hb.oldq
 have hl16:(es.length:Int)≤16:=by have:=hb.le;omega
 have hmk:=run_make_se w es.length (by omega)
 have c1:=(Chg.refl [] w).alloc (.cells (sq Se.enc (List.replicate es.length seZ) []) 165)
 have hb1:(w.alloc (.cells (sq Se.enc (List.replicate es.length seZ) []) 165)).heap[w.heap.size]? =some (.cells (sq Se.enc (List.replicate es.length seZ) []) 165 (0,0)):=by simp
 generalize w.alloc (.cells (sq Se.enc (List.replicate es.length seZ) []) 165)=w1 at hmk c1 hb1
 have HB1:=Vh hb1
 have HC1:=Vh c1
 have HN:=Vh (show w.heap.size≠q by have:=oq.lt;omega)
 clear hb hb1 c1
 go_enter Tryz.func92,Tryz.ntmps92
 go_wp2_with (go_at_call 126;refine (Qh1 HB.out).mono ?_;rintro e w' ⟨rfl,rfl⟩)
 generalize hp:w.heap.size=p at HB1 HN
 have HP:=Vh hp
 clear hp
 go_loopw [4,10] (fun _ i wr=>∃k:Nat,k≤es.length∧i=.int .i64 k∧Chg [p] w1 wr∧wr.heap[p]? =some (.cells (sq Se.enc (Qgo es k) []) 165 (0,0))) (fun _ i _=>es.length-(intOf i).toNat)
 case atStart=>exact ⟨0,by omega,rfl,Chg.refl _ _,by rw [fillE_zero];exact HB1.out⟩
 case round=>
  obtain ⟨k,hk,rfl,hc,hb⟩:=hrel
  have HC:=Vh hc
  have hb2:=(HB.out.keep HC1.out (by simp)).keep hc (by simpa using Ne.symm HN.out)
  by_cases hlt:k<es.length
  ·obtain ⟨e,he⟩:∃e,es[k]? =some e:=⟨es[k],List.getElem?_eq_getElem hlt⟩
   have HE:=Vh he
   obtain ⟨r,f,hq,hf,hall,hle⟩:=hb2
   have hget:=hall k e he
   have HF:=Vh hf
   have HLT:=Vh hlt
   have g1:(k:Int)<(es.length:Int):=by omega
   have g0:(0:Int)≤(k:Int):=by omega
   have hpart:=Qf3 room r f es.length 168 (0,0) k
   rw [hget] at hpart
   clear hall hle hf hc he hlt hget
   go_wp2_with fail
   refine (sat_c HF.out (by omega) hq).mono ?_
   rintro a w2 ⟨rfl,c2⟩
   have hq2:=c2.keep hq (by simp)
   have hb3:=c2.keep hb (by simp)
   have HC2:=Vh (HC.out.trans (c2.mono (by simp)))
   have oq2:=old hq2
   have ob2:=old hb3
   have hln:=fillE_length es k (by omega)
   have rh:ZX (some (.cells (sq Se.enc (Qgo es k) []) 165 (0,0))) (k*5) 5=true:=by
    rw [Qe,JD Se.len,hln];exact decide_eq_true (show _≤_ by have:=HLT.out;simp;omega)
   have rf:Fit (k*5) 5 (sq Se.enc (Qgo es k) []).size=True:=by
    rw [JD Se.len,hln];exact eq_true (show _≤_ by have:=HLT.out;simp;omega)
   have HR:=Vh rh
   have HH:=Vh hb3
   clear hq c2 hln hb
   go_wp2_with fail
   have h9:(putRow w2 p (k*5) (sec e)).heap[p]? =some (.cells (sq Se.enc (Qgo es (k+1)) []) 165 (0,0)):=by
    rw [Qc _ _ _ _ _ (by rw [HH.out,Q5];exact HR.out),if_pos rfl,HH.out,XD,YF,sec_enc,List.toList_toArray,List.append_nil,←Qdb (enc:=Se.enc) e,Qel Se.len,fillE_succ HE.out]
    simp [sq]
   go_roundw
   case rel=>exact ⟨k+1,by have:=HLT.out;omega,by go_num,HC2.out.putRow _ _ _ (.inl (by simp)),h9⟩
   case measure=>simp [intOf];omega
  ·have:k=es.length:=by omega
   subst this
   go_wp2_with fail
   go_ret
   rw [fillE_all] at hb
   exact ⟨p,rfl,by have:=HP.out;omega,HC1.out.trans' HC.out (by have:=HP.out;simp;omega),hb⟩
end
end Go.Proofs.YtlidfghgjjffaaaGreatDoor
