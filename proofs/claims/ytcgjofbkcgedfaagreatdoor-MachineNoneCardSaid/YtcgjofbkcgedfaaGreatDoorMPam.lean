/- Texts of the walk, one behind the other: Sbm Evt Alu Alub Cop Coi Mcg Cor Isa Isb. No condition. -/
import Derived.Test.YtcgjofbkcgedfaaGreatDoorMPaa
import Derived.Test.YtcgjofbkcgedfaaGreatDoorMPab
import Derived.Test.YtcgjofbkcgedfaaGreatDoorMPal
import Derived.BigQuiet
import Derived.Deep.QuietTactic
import Derived.Laws.Bits64b
import Derived.Lib.Hide
import Derived.Maps.OwnOps
import Derived.Test.YtcgjofbkcgedfaaGreatDoorChecked
import Derived.WalkKit
namespace Go.Proofs.YtcgjofbkcgedfaaGreatDoor
open Go.RowKit
set_option linter.unusedVariables false
set_option maxHeartbeats 1000000
section
structure Se where
 kd:Int
 li:Int
 wo:Int
 va:Int
 sn:Bool
deriving DecidableEq
def Se.enc (e:Se):List Value:=[.int .i64 e.kd,.int .i64 e.li,.int .i64 e.wo,.int .u64 e.va,.bool e.sn]
theorem Se.len (e:Se):(Se.enc e).length=5:=rfl
theorem Se.one (e:Se):∀v∈Se.enc e,v.oneCell'=true:=by
 intro v hv
 simp only [Se.enc,List.mem_cons,Vn,or_false] at hv
 rcases hv with rfl|rfl|rfl|rfl|rfl<;>rfl
def sent (e:Se):Se:={e with sn:=true}
def seZ:Se:=⟨0,0,0,0,false⟩
def sec (e:Se):Array Value:=(Se.enc e).toArray
theorem Q8 (e:Se):(sec e).size=5:=by simp [sec,Se.enc]
theorem Xv (e:Se):J6 (sec e):=Qp _ (List.all_eq_true.2 (Se.one e))
theorem Yi (e:Se):(sec e)[0]? =some (.int .i64 e.kd):=rfl
theorem Yh (e:Se):(sec e)[1]? =some (.int .i64 e.li):=rfl
theorem Yd (e:Se):(sec e)[2]? =some (.int .i64 e.wo):=rfl
theorem Ye (e:Se):(sec e)[3]? =some (.int .u64 e.va):=rfl
theorem Yf (e:Se):(sec e)[4]? =some (.bool e.sn):=rfl
theorem Xw (k l o v:Int) (s:Bool):(#[.int .i64 k,.int .i64 l,.int .i64 o,.int .u64 v,.bool s]:Array Value)=sec ⟨k,l,o,v,s⟩:=rfl
theorem JT:sec ⟨0,0,0,0,false⟩=sec seZ:=rfl
theorem Yg (e:Se):(sec e=#[])=False:=eq_false (fun h=>by have:=congrArg Array.size h;rw [Q8] at this;cases this)
theorem ZZ (e:Se) (v:Int):(sec e).setIfInBounds 0 (.int .i64 v)=sec ⟨v,e.li,e.wo,e.va,e.sn⟩:=by simp [sec,Se.enc]
theorem ZY (e:Se) (v:Int):(sec e).setIfInBounds 1 (.int .i64 v)=sec ⟨e.kd,v,e.wo,e.va,e.sn⟩:=by simp [sec,Se.enc]
theorem ZX (e:Se) (v:Int):(sec e).setIfInBounds 2 (.int .i64 v)=sec ⟨e.kd,e.li,v,e.va,e.sn⟩:=by simp [sec,Se.enc]
theorem ZW (e:Se) (v:Int):(sec e).setIfInBounds 3 (.int .u64 v)=sec ⟨e.kd,e.li,e.wo,v,e.sn⟩:=by simp [sec,Se.enc]
theorem Yn:seZ.kd=0:=rfl
theorem Ym:seZ.li=0:=rfl
theorem Yj:seZ.wo=0:=rfl
theorem Yk:seZ.va=0:=rfl
theorem Yl:seZ.sn=false:=rfl
theorem sec_enc (e:Se):sec e=(Se.enc e).toArray:=rfl
def sezV:Value:=.agg (sec seZ)
theorem sezV_size:sezV.cells.size=5:=rfl
theorem Qg3 {α:Type} (xs l:List α) (o j:Nat) (h:o+l.length≤xs.length):(Zx xs o l)[j]? =if j<o then xs[j]? else if j<o+l.length then l[j-o]? else xs[j]?:=by
 unfold Zx
 have e1:(xs.take o).length=o:=by simp;omega
 split
 ·rename_i h1
  rw [List.append_assoc,List.getElem?_append_left (by omega),List.getElem?_take_of_lt h1]
 ·split
  ·rename_i h1 h2
   rw [List.append_assoc,List.getElem?_append_right (by omega),e1,List.getElem?_append_left (by omega)]
  ·rename_i h1 h2
   rw [List.getElem?_append_right (by simp;omega),List.getElem?_drop]
   congr 1
   simp;omega
structure Ring where
 l:List Se
 h:l.length=16
def Ring.get (r:Ring) (p:Nat):Se:=r.l.getD p seZ
def Ring.put (r:Ring) (p:Nat) (e:Se):Ring:=⟨r.l.set p e,by rw [List.length_set];exact r.h⟩
def ringZ:Ring:=⟨List.replicate 16 seZ,rfl⟩
theorem Ring.at (r:Ring) {p:Nat} (hp:p<16):r.l[p]? =some (r.get p):=by
 have:=r.h
 unfold Ring.get
 rw [List.getElem?_eq_getElem (by omega)];simp [this,hp]
theorem Ring.put_same (r:Ring) {p:Nat} (hp:p<16) (e:Se):(r.put p e).get p=e:=by
 have:=r.h
 unfold Ring.get Ring.put
 simp [List.getD_eq_getElem?_getD,this,hp]
theorem Ring.put_other (r:Ring) {p q:Nat} (h:p≠q) (e:Se):(r.put p e).get q=r.get q:=by
 unfold Ring.get Ring.put
 simp [List.getD_eq_getElem?_getD,h]
def pl (f n:Nat):Nat:=(f+n) % 16
theorem pl_lt (f n:Nat):pl f n<16:=Nat.mod_lt _ (by omega)
theorem pl_ne {f n m:Nat} (h:n<m) (hm:m<16+n):pl f n≠pl f m:=by unfold pl;omega
theorem pl_next (f n:Nat):pl (pl f 1) n=pl f (n+1):=by unfold pl;omega
theorem fit_pl (f n:Nat):Fit (1+pl f n*5) 5 83=True:=by have:=pl_lt f n;exact eq_true (show _≤_ by omega)
def bfc (room:Int) (r:Ring) (f c:Nat):Array Value:=(.int .i64 room::(cat Se.enc r.l++[.int .i64 f,.int .i64 c])).toArray
section
variable (room:Int) (r:Ring) (f c:Nat)
theorem YA:(cat Se.enc r.l).length=80:=by rw [Q7 Se.len,r.h]
theorem Qc7:(bfc room r f c).size=83:=by simp [bfc,YA]
theorem bfc_room:(bfc room r f c)[0]? =some (.int .i64 room):=by simp [bfc]
theorem bfc_first:(bfc room r f c)[81]? =some (.int .i64 f):=by
 unfold bfc
 rw [List.getElem?_toArray,List.getElem?_cons_succ,List.getElem?_append_right (by rw [YA];omega),YA];rfl
theorem bfc_count:(bfc room r f c)[82]? =some (.int .i64 c):=by
 unfold bfc
 rw [List.getElem?_toArray,List.getElem?_cons_succ,List.getElem?_append_right (by rw [YA];omega),YA];rfl
theorem Qa5 (g:Nat):(bfc room r f c).setIfInBounds 81 (.int .i64 g)=bfc room r g c:=by
 unfold bfc
 rw [List.setIfInBounds_toArray,List.set_cons_succ,List.set_append_right _ _ (by rw [YA];omega),YA];rfl
theorem J5 (g:Nat):(bfc room r f c).setIfInBounds 82 (.int .i64 g)=bfc room r f g:=by
 unfold bfc
 rw [List.setIfInBounds_toArray,List.set_cons_succ,List.set_append_right _ _ (by rw [YA];omega),YA];rfl
theorem Qgk (t:TypeId) (n:Nat):ZO (some (.cells (bfc room r f c) t (0,0))) (1+pl f n*5) 5=true:=by
 have:=pl_lt f n
 rw [Qd,Qc7];exact decide_eq_true (show _≤_ by omega)
theorem Qft (t:TypeId) (g:Nat×Nat) (n:Nat):XM (some (.cells (bfc room r f c) t g)) (1+pl f n*5) 5=sec (r.get (pl f n)):=by
 have h1:=pl_lt f n
 have h2:=YA r
 rw [XH,sec_enc]
 unfold bfc
 rw [List.toList_toArray,Nat.add_comm 1,List.drop_succ_cons,List.drop_append_of_le_length (by omega),List.take_append_of_le_length (by rw [List.length_drop];omega),Ju Se.len (r.at h1)]
theorem Qex (t:TypeId) (g:Nat×Nat) (n:Nat) (e:Se):JZ (some (.cells (bfc room r f c) t g)) (1+pl f n*5) (sec e)=some (.cells (bfc room (r.put (pl f n) e) f c) t g):=by
 have h1:=pl_lt f n
 have h2:=YA r
 rw [Xx,sec_enc]
 unfold bfc Ring.put
 have e1:∀(v:Value) (l:List Value) (o:Nat),Zx (v::l) (o+1) (Se.enc e)=v::Zx l o (Se.enc e):=by
  intro v l o
  unfold Zx
  rw [List.take_succ_cons,show o+1+(Se.enc e).length=(o+(Se.enc e).length)+1 by omega,List.drop_succ_cons];rfl
 rw [List.toList_toArray,List.toList_toArray,Nat.add_comm 1,e1,Qaa _ _ _ _ (by rw [h2,Se.len];omega),←Qc6 (enc:=Se.enc) e,Qeb Se.len]
 have h3:Zx r.l (pl f n) [e]=r.l.set (pl f n) e:=by
  have:=r.h
  have e2:r.l.set (pl f n) e=r.l.take (pl f n)++e::r.l.drop (pl f n+1):=List.set_eq_take_append_cons_drop.trans (if_pos (by omega))
  rw [e2]
  simp [Zx]
 rw [h3]
theorem Qec {n j:Nat} (hj:j<5):(bfc room r f c)[1+pl f n*5+j]? =(Se.enc (r.get (pl f n)))[j]?:=by
 have hp:=Qft room r f c 0 (0,0) n
 rw [XH] at hp
 have hpl:=congrArg Array.toList hp
 rw [List.toList_toArray] at hpl
 have:=congrArg (·[j]?) hpl
 simpa [List.getElem?_take,hj,List.getElem?_drop,sec] using this
theorem bfc_kd (n:Nat):(bfc room r f c)[1+pl f n*5]? =some (.int .i64 (r.get (pl f n)).kd):=Qec room r f c (j:=0) (by omega)
theorem bfc_li (n:Nat):(bfc room r f c)[1+pl f n*5+1]? =some (.int .i64 (r.get (pl f n)).li):=Qec room r f c (by omega)
theorem bfc_wo (n:Nat):(bfc room r f c)[1+pl f n*5+2]? =some (.int .i64 (r.get (pl f n)).wo):=Qec room r f c (by omega)
theorem bfc_va (n:Nat):(bfc room r f c)[1+pl f n*5+3]? =some (.int .u64 (r.get (pl f n)).va):=Qec room r f c (by omega)
theorem bfc_sn (n:Nat):(bfc room r f c)[1+pl f n*5+4]? =some (.bool (r.get (pl f n)).sn):=Qec room r f c (by omega)
theorem Qfs (t:TypeId) (g:Nat×Nat) (n:Nat):Qh1 (some (.cells (bfc room r f c) t g)) (1+pl f n*5+4) (.bool true)=some (.cells (bfc room (r.put (pl f n) (sent (r.get (pl f n)))) f c) t g):=by
 have h1:=pl_lt f n
 have h2:=YA r
 have h3:=Qex room r f c t g n (sent (r.get (pl f n)))
 rw [←h3,Xx,Qf]
 congr 2
 have hs:(bfc room r f c).toList.length=83:=by rw [Array.length_toList,Qc7]
 apply Array.ext_getElem?
 intro k
 rw [←Array.getElem?_toList,←Array.getElem?_toList,List.toList_toArray,Array.toList_setIfInBounds]
 rw [Qg3 _ _ _ _ (by rw [hs];show _+5≤83;omega)]
 have hc:∀j,j<5→(bfc room r f c).toList[1+pl f n*5+j]? =(Se.enc (r.get (pl f n)))[j]?:=fun j hj=>by
  rw [Array.getElem?_toList];exact Qec room r f c hj
 show _=if k<1+pl f n*5 then _ else if k<1+pl f n*5+5 then _ else _
 by_cases ha:k<1+pl f n*5
 ·rw [if_pos ha,List.getElem?_set_ne (by omega)]
 rw [if_neg ha]
 by_cases hb:k<1+pl f n*5+5
 ·rw [if_pos hb]
  obtain ⟨j,rfl⟩:∃j,k=1+pl f n*5+j:=⟨k-(1+pl f n*5),by omega⟩
  have hj:j<5:=by omega
  have hcj:=hc j hj
  rw [show 1+pl f n*5+j-(1+pl f n*5)=j by omega]
  match j,hj with
  |0,_=>rw [List.getElem?_set_ne (by omega),hcj];rfl
  |1,_=>rw [List.getElem?_set_ne (by omega),hcj];rfl
  |2,_=>rw [List.getElem?_set_ne (by omega),hcj];rfl
  |3,_=>rw [List.getElem?_set_ne (by omega),hcj];rfl
  |4,_=>rw [List.getElem?_set_self (by rw [hs];omega)];rfl
 ·rw [if_neg hb,List.getElem?_set_ne (by omega)]
end
def Qbs (n a b:Int):Bool:=decide (a≤n)&&decide (n≤b)
def Qb1 (e:Se):Bool:=
 Qbs e.li 0 63&&!e.sn&&((e.kd==9&&Qbs e.wo 0 7)||((e.kd==12||e.kd==13||e.kd==14)&&(e.wo==0&&e.va==0)))
def sbV (room:Nat) (es:List Se) (e:Se):Int:=if Qb1 e then (if room≤es.length then 13 else 0) else 11
def sbE (room:Nat) (es:List Se) (e:Se):List Se:=if Qb1 e then (if room≤es.length then es else es++[e]) else es
def hdE (es:List Se):Se:=es.headD seZ
def hdB (es:List Se):Bool:=!es.isEmpty
def isAt (li wo:Int) (e:Se):Bool:=e.kd==9&&(e.li==li&&e.wo==wo)
def fdO (es:List Se) (li wo:Int):Option Se:=es.reverse.find? (isAt li wo)
def fdV (es:List Se) (li wo:Int):Int:=match fdO es li wo with|some e=>e.va|none=>0
def fdB (es:List Se) (li wo:Int):Bool:=(fdO es li wo).isSome
def sdE:List Se→List Se
 |[]=>[]
 |e::es=>if e.kd=14 then sent e::es else e::es
theorem fdO_none {es:List Se} {li wo:Int} (h:∀e∈es,isAt li wo e=false):fdO es li wo=none:=by
 unfold fdO
 rw [List.find?_eq_none]
 intro x hx
 simp [h x (List.mem_reverse.1 hx)]
theorem fdO_some {es:List Se} {li wo:Int} {k:Nat} {e:Se} (he:es[k]? =some e) (h:isAt li wo e=true) (hd:∀x∈es.drop (k+1),isAt li wo x=false):fdO es li wo=some e:=by
 obtain ⟨hk,rfl⟩:=Vg he
 have hc:es=es.take k++es[k]::es.drop (k+1):=by rw [←List.drop_eq_getElem_cons hk,List.take_append_drop]
 unfold fdO
 rw [show es.reverse=(es.drop (k+1)).reverse++es[k]::(es.take k).reverse by
  conv=>lhs;rw [hc]
  simp,List.find?_append,List.find?_eq_none.2 (by
  intro x hx
  simp [hd x (List.mem_reverse.1 hx)]),List.find?_cons_of_pos h]
 rfl
theorem drop_all12 {α:Type} {p:α→Bool} {es:List α} {k:Nat} {e:α} (he:es[k]? =some e) (h:p e=false) (hd:∀x∈es.drop (k+1),p x=false):∀x∈es.drop k,p x=false:=by
 obtain ⟨hk,rfl⟩:=Vg he
 rw [List.drop_eq_getElem_cons hk]
 intro x hx
 rcases List.mem_cons.1 hx with rfl|hx
 ·exact h
 ·exact hd x hx
end
section
structure Ev where
 kd:Int
 co:Int
 li:Int
 wo:Int
 va:Int
deriving DecidableEq
def Ev.enc (e:Ev):List Value:=[.int .i64 e.kd,.int .i64 e.co,.int .i64 e.li,.int .i64 e.wo,.int .u64 e.va]
def evc (e:Ev):Array Value:=(Ev.enc e).toArray
def evZ:Ev:=⟨0,0,0,0,0⟩
theorem Ev.len (e:Ev):(Ev.enc e).length=5:=rfl
theorem Ev.one (e:Ev):∀v∈Ev.enc e,v.oneCell'=true:=by
 intro v hv
 simp only [Ev.enc,List.mem_cons,Vn,or_false] at hv
 rcases hv with rfl|rfl|rfl|rfl|rfl<;>rfl
theorem Zc (e:Ev):(evc e).size=5:=by simp [evc,Ev.enc]
theorem XB (e:Ev):J6 (evc e):=Qp _ (List.all_eq_true.2 (Ev.one e))
theorem YK (e:Ev):(evc e)[0]? =some (.int .i64 e.kd):=rfl
theorem YL (e:Ev):(evc e)[1]? =some (.int .i64 e.co):=rfl
theorem YJ (e:Ev):(evc e)[2]? =some (.int .i64 e.li):=rfl
theorem YG (e:Ev):(evc e)[3]? =some (.int .i64 e.wo):=rfl
theorem YH (e:Ev):(evc e)[4]? =some (.int .u64 e.va):=rfl
theorem XC (k c l o v:Int):(#[.int .i64 k,.int .i64 c,.int .i64 l,.int .i64 o,.int .u64 v]:Array Value)=evc ⟨k,c,l,o,v⟩:=rfl
theorem Qad:evc ⟨0,0,0,0,0⟩=evc evZ:=rfl
theorem Xa (e:Ev) (v:Int):(evc e).setIfInBounds 0 (.int .i64 v)=evc ⟨v,e.co,e.li,e.wo,e.va⟩:=by simp [evc,Ev.enc]
theorem Z9 (e:Ev) (v:Int):(evc e).setIfInBounds 1 (.int .i64 v)=evc ⟨e.kd,v,e.li,e.wo,e.va⟩:=by simp [evc,Ev.enc]
theorem Z8 (e:Ev) (v:Int):(evc e).setIfInBounds 2 (.int .i64 v)=evc ⟨e.kd,e.co,v,e.wo,e.va⟩:=by simp [evc,Ev.enc]
theorem Z7 (e:Ev) (v:Int):(evc e).setIfInBounds 3 (.int .i64 v)=evc ⟨e.kd,e.co,e.li,v,e.va⟩:=by simp [evc,Ev.enc]
theorem Z6 (e:Ev) (v:Int):(evc e).setIfInBounds 4 (.int .u64 v)=evc ⟨e.kd,e.co,e.li,e.wo,v⟩:=by simp [evc,Ev.enc]
theorem YP:evZ.kd=0:=rfl
theorem YQ:evZ.co=0:=rfl
theorem YO:evZ.li=0:=rfl
theorem YM:evZ.wo=0:=rfl
theorem YN:evZ.va=0:=rfl
theorem YI (e:Ev):(evc e=#[])=False:=eq_false (fun h=>by have:=congrArg Array.size h;rw [Zc] at this;cases this)
theorem Z3 (C:Array Value) (e:Ev) (h:C.size=5):Array.foldl (fun cs y=>cs.setIfInBounds y.snd y.fst) C (evc e).zipIdx 0 5=evc e:=Qd7 _ _ _ (Zc e) h
theorem Qhs (e:Ev):sq Ev.enc [e] []=evc e:=by simp [sq,cat,evc]
end
section
def opRow (r g:Value):Value:=.agg #[r,g]
def fnv (n:Nat):Value:=.func (.func n) #[] #[]
def opKey:Nat→Int
 |0=>2|1=>3|2=>4|3=>5|4=>6|5=>7|6=>17|7=>18|8=>19|_=>20
def opVal:Nat→Value
 |0=>opRow (fnv 191) .nilFunc|1=>opRow (fnv 192) .nilFunc|2=>opRow (fnv 193) .nilFunc
 |3=>opRow (fnv 194) .nilFunc|4=>opRow (fnv 195) .nilFunc|5=>opRow (fnv 196) .nilFunc
 |6=>opRow .nilFunc (fnv 197)|7=>opRow .nilFunc (fnv 198)|8=>opRow .nilFunc (fnv 199)|_=>opRow .nilFunc (fnv 200)
def tbl:Nat→Array MapEntry
 |0=>#[]
 |j+1=>(tbl j).push {key:=.int .i64 (opKey j),val:=opVal j,born:=j}
def mapW (W:World) (j:Nat):World:=W.alloc (.map (tbl j) j)
theorem mapW_made (W:World):(Instr.makeMap 253 none).run Tryz.prog W=.ok (.map (some W.heap.size)) (mapW W 0):=rfl
theorem alloc_set (W:World) (a b:Obj):({W.alloc a with heap:=(W.alloc a).heap.setIfInBounds W.heap.size b}:World)=W.alloc b:=by
 refine World.ext_heap ?_ rfl rfl rfl rfl
 show (W.heap.push a).setIfInBounds W.heap.size b=W.heap.push b
 apply Array.ext'
 rw [Array.toList_setIfInBounds,Array.toList_push,Array.toList_push,←Array.length_toList,List.set_append_right _ _ (Nat.le_refl _)]
 simp
theorem mapW_at (W:World) (j:Nat):(mapW W j).heap[W.heap.size]? =some (.map (tbl j) j):=(MapKept.heap_alloc W _).1
theorem Qhp (w:World):(underlying 253).run Tryz.prog w=.ok (.map 3 252) w:=run_underlying Tryz.underlying253 w
theorem Qim (k:Int) (e:Bool) (w:World):(Instr.checkKey e 10000 3 (.int .i64 k)).run Tryz.prog w=.ok () w:=MapKept.run_checkKey (d:=.int .i64) (k:=.int .i64 k) Tryz.underlying3 (by simp [MapKept.IsKey]) e 9999
theorem Qav (W:World) (j:Nat) (k:Int) (v:Value) (hk:opKey j=k) (hv:opVal j=v) (h:Instr.findNow (.int .i64) (.int .i64 k) (tbl j).toList 0=some none):
 (Instr.mapUpdate 253 (.map (some W.heap.size)) (.int .i64 k) v).run Tryz.prog (mapW W j)=.ok () (mapW W (j+1)):=by
 subst hk hv
 have hb:=mapW_at W j
 have h2:∀w,(Instr.findKey 3 (.int .i64 (opKey j)) (tbl j).toList).run Tryz.prog w=.ok none w:=fun w=>MapKept.run_findKey Tryz.underlying3 h
 simp only [Instr.mapUpdate,Sem.run_bind,Qhp,Result.andThen,getObj,Sem.run,hb,Qim,h2,setObj]
 exact congrArg (Result.ok ()) (alloc_set W (.map (tbl j) j) _)
theorem put0 (W:World):(Instr.mapUpdate 253 (.map (some W.heap.size)) (.int .i64 2) (.agg #[(.func (.func 191) #[] #[]),.nilFunc])).run Tryz.prog (mapW W 0)=.ok () (mapW W 1):=Qav W 0 2 _ rfl rfl rfl
theorem put1 (W:World):(Instr.mapUpdate 253 (.map (some W.heap.size)) (.int .i64 3) (.agg #[(.func (.func 192) #[] #[]),.nilFunc])).run Tryz.prog (mapW W 1)=.ok () (mapW W 2):=Qav W 1 3 _ rfl rfl rfl
theorem put2 (W:World):(Instr.mapUpdate 253 (.map (some W.heap.size)) (.int .i64 4) (.agg #[(.func (.func 193) #[] #[]),.nilFunc])).run Tryz.prog (mapW W 2)=.ok () (mapW W 3):=Qav W 2 4 _ rfl rfl rfl
theorem put3 (W:World):(Instr.mapUpdate 253 (.map (some W.heap.size)) (.int .i64 5) (.agg #[(.func (.func 194) #[] #[]),.nilFunc])).run Tryz.prog (mapW W 3)=.ok () (mapW W 4):=Qav W 3 5 _ rfl rfl rfl
theorem put4 (W:World):(Instr.mapUpdate 253 (.map (some W.heap.size)) (.int .i64 6) (.agg #[(.func (.func 195) #[] #[]),.nilFunc])).run Tryz.prog (mapW W 4)=.ok () (mapW W 5):=Qav W 4 6 _ rfl rfl rfl
theorem put5 (W:World):(Instr.mapUpdate 253 (.map (some W.heap.size)) (.int .i64 7) (.agg #[(.func (.func 196) #[] #[]),.nilFunc])).run Tryz.prog (mapW W 5)=.ok () (mapW W 6):=Qav W 5 7 _ rfl rfl rfl
theorem put6 (W:World):(Instr.mapUpdate 253 (.map (some W.heap.size)) (.int .i64 17) (.agg #[.nilFunc,(.func (.func 197) #[] #[])])).run Tryz.prog (mapW W 6)=.ok () (mapW W 7):=Qav W 6 17 _ rfl rfl rfl
theorem put7 (W:World):(Instr.mapUpdate 253 (.map (some W.heap.size)) (.int .i64 18) (.agg #[.nilFunc,(.func (.func 198) #[] #[])])).run Tryz.prog (mapW W 7)=.ok () (mapW W 8):=Qav W 7 18 _ rfl rfl rfl
theorem put8 (W:World):(Instr.mapUpdate 253 (.map (some W.heap.size)) (.int .i64 19) (.agg #[.nilFunc,(.func (.func 199) #[] #[])])).run Tryz.prog (mapW W 8)=.ok () (mapW W 9):=Qav W 8 19 _ rfl rfl rfl
theorem put9 (W:World):(Instr.mapUpdate 253 (.map (some W.heap.size)) (.int .i64 20) (.agg #[.nilFunc,(.func (.func 200) #[] #[])])).run Tryz.prog (mapW W 9)=.ok () (mapW W 10):=Qav W 9 20 _ rfl rfl rfl
theorem Qa7 (W:World):Calls Tryz.prog 144 #[] W fun e w'=>e=.returned (.map (some W.heap.size))∧w'=mapW W 10:=by
 have hm:=mapW_made
 have h0:=put0 W
 have h1:=put1 W
 have h2:=put2 W
 have h3:=put3 W
 have h4:=put4 W
 have h5:=put5 W
 have h6:=put6 W
 have h7:=put7 W
 have h8:=put8 W
 have h9:=put9 W
 go_enter Tryz.func144,Tryz.ntmps144
 go_wp2_with fail
 go_ret
 exact ⟨rfl,rfl⟩
def recF (op:Int):Value:=if op=2 then .func (.func 191) #[] #[] else if op=3 then .func (.func 192) #[] #[] else if op=4 then .func (.func 193) #[] #[] else if op=5 then .func (.func 194) #[] #[] else if op=6 then .func (.func 195) #[] #[] else if op=7 then .func (.func 196) #[] #[] else .nilFunc
def goF (op:Int):Value:=if op=17 then .func (.func 197) #[] #[] else if op=18 then .func (.func 198) #[] #[] else if op=19 then .func (.func 199) #[] #[] else if op=20 then .func (.func 200) #[] #[] else .nilFunc
theorem tbl10:(tbl 10).toList=[
 {key:=.int .i64 2,val:=.agg #[.func (.func 191) #[] #[],.nilFunc],born:=0},
 {key:=.int .i64 3,val:=.agg #[.func (.func 192) #[] #[],.nilFunc],born:=1},
 {key:=.int .i64 4,val:=.agg #[.func (.func 193) #[] #[],.nilFunc],born:=2},
 {key:=.int .i64 5,val:=.agg #[.func (.func 194) #[] #[],.nilFunc],born:=3},
 {key:=.int .i64 6,val:=.agg #[.func (.func 195) #[] #[],.nilFunc],born:=4},
 {key:=.int .i64 7,val:=.agg #[.func (.func 196) #[] #[],.nilFunc],born:=5},
 {key:=.int .i64 17,val:=.agg #[.nilFunc,.func (.func 197) #[] #[]],born:=6},
 {key:=.int .i64 18,val:=.agg #[.nilFunc,.func (.func 198) #[] #[]],born:=7},
 {key:=.int .i64 19,val:=.agg #[.nilFunc,.func (.func 199) #[] #[]],born:=8},
 {key:=.int .i64 20,val:=.agg #[.nilFunc,.func (.func 200) #[] #[]],born:=9}]:=rfl
theorem zero_op (w:World):(zeroValue 252).run Tryz.prog w=.ok (.agg #[.nilFunc,.nilFunc]) w:=by kernel_rfl
theorem JQ {op:Int} {W:World} {b i:Nat} {v:Value} (hb:W.heap[b]? =some (.map (tbl 10) 10)) (h:Instr.findNow (.int .i64) (.int .i64 op) (tbl 10).toList 0=some (some (i,v))):
 (Instr.lookup 253 (.map (some b)) (.int .i64 op) false).run Tryz.prog W=.ok v W:=by
 have h2:∀w,(Instr.findKey 3 (.int .i64 op) (tbl 10).toList).run Tryz.prog w=.ok (some (i,v)) w:=fun w=>MapKept.run_findKey Tryz.underlying3 h
 simp only [Instr.lookup,Sem.run_bind,Qhp,Result.andThen,getObj,Sem.run,hb,Qim,Sem.run_pure,h2]
 rfl
theorem look_none {op:Int} {W:World} {b:Nat} (hb:W.heap[b]? =some (.map (tbl 10) 10)) (h:Instr.findNow (.int .i64) (.int .i64 op) (tbl 10).toList 0=some none):
 (Instr.lookup 253 (.map (some b)) (.int .i64 op) false).run Tryz.prog W=.ok (.agg #[.nilFunc,.nilFunc]) W:=by
 have h2:∀w,(Instr.findKey 3 (.int .i64 op) (tbl 10).toList).run Tryz.prog w=.ok none w:=fun w=>MapKept.run_findKey Tryz.underlying3 h
 simp only [Instr.lookup,Sem.run_bind,Qhp,Result.andThen,getObj,Sem.run,hb,Qim,Sem.run_pure,h2,zero_op]
 rfl
theorem look_op (op:Int) (W:World) (b:Nat) (hb:W.heap[b]? =some (.map (tbl 10) 10)):(Instr.lookup 253 (.map (some b)) (.int .i64 op) false).run Tryz.prog W=.ok (.agg #[recF op,goF op]) W:=by
 by_cases h2:op=2
 ·subst h2;exact JQ hb rfl
 by_cases h3:op=3
 ·subst h3;exact JQ hb rfl
 by_cases h4:op=4
 ·subst h4;exact JQ hb rfl
 by_cases h5:op=5
 ·subst h5;exact JQ hb rfl
 by_cases h6:op=6
 ·subst h6;exact JQ hb rfl
 by_cases h7:op=7
 ·subst h7;exact JQ hb rfl
 by_cases h17:op=17
 ·subst h17;exact JQ hb rfl
 by_cases h18:op=18
 ·subst h18;exact JQ hb rfl
 by_cases h19:op=19
 ·subst h19;exact JQ hb rfl
 by_cases h20:op=20
 ·subst h20;exact JQ hb rfl
 rw [show recF op=.nilFunc by simp [recF,h2,h3,h4,h5,h6,h7],show goF op=.nilFunc by simp [goF,h17,h18,h19,h20]]
 refine look_none hb ?_
 rw [tbl10]
 have e2:(op==2)=false:=by simpa using h2
 have e3:(op==3)=false:=by simpa using h3
 have e4:(op==4)=false:=by simpa using h4
 have e5:(op==5)=false:=by simpa using h5
 have e6:(op==6)=false:=by simpa using h6
 have e7:(op==7)=false:=by simpa using h7
 have e17:(op==17)=false:=by simpa using h17
 have e18:(op==18)=false:=by simpa using h18
 have e19:(op==19)=false:=by simpa using h19
 have e20:(op==20)=false:=by simpa using h20
 simp only [Instr.findNow,Instr.sameNow,if_pos,e2,e3,e4,e5,e6,e7,e17,e18,e19,e20]
theorem look_map (op:Int) (W:World):(Instr.lookup 253 (.map (some W.heap.size)) (.int .i64 op) false).run Tryz.prog (mapW W 10)=.ok (.agg #[recF op,goF op]) (mapW W 10):=look_op op _ _ (mapW_at W 10)
theorem Chg.mapW (W:World) (j:Nat):Chg [] W (mapW W j):=(Chg.refl [] W).alloc _
end
section
theorem fadd (x y:Int) (w:World):Calls Tryz.prog 191 #[.int .u64 x,.int .u64 y] w fun e w'=>e=.returned (.int .u64 (IntKind.u64.wrap (x+y)))∧w=w':=by
 go_enter Tryz.func191,Tryz.ntmps191
 go_wp2
 go_ret
 exact ⟨rfl,rfl⟩
theorem fsub (x y:Int) (w:World):Calls Tryz.prog 192 #[.int .u64 x,.int .u64 y] w fun e w'=>e=.returned (.int .u64 (IntKind.u64.wrap (x-y)))∧w=w':=by
 go_enter Tryz.func192,Tryz.ntmps192
 go_wp2
 go_ret
 exact ⟨rfl,rfl⟩
theorem fand (x y:Int) (w:World):Calls Tryz.prog 193 #[.int .u64 x,.int .u64 y] w fun e w'=>e=.returned (.int .u64 (bits .and .u64 x y))∧w=w':=by
 go_enter Tryz.func193,Tryz.ntmps193
 go_wp2
 go_ret
 exact ⟨rfl,rfl⟩
theorem fxor (x y:Int) (w:World):Calls Tryz.prog 194 #[.int .u64 x,.int .u64 y] w fun e w'=>e=.returned (.int .u64 (bits .xor .u64 x y))∧w=w':=by
 go_enter Tryz.func194,Tryz.ntmps194
 go_wp2
 go_ret
 exact ⟨rfl,rfl⟩
theorem fshl (x y:Int) (hy:0≤y) (w:World):Calls Tryz.prog 195 #[.int .u64 x,.int .u64 y] w fun e w'=>e=.returned (.int .u64 (IntKind.u64.wrap (x*2 ^ (y % 64).toNat)))∧w=w':=by
 have h1:0≤y % 64:=by omega
 have h2:(y % 64).toNat<64:=by omega
 go_enter Tryz.func195,Tryz.ntmps195
 go_wp2
 go_ret
 exact ⟨rfl,rfl⟩
theorem fshr (x y:Int) (hy:0≤y) (w:World):Calls Tryz.prog 196 #[.int .u64 x,.int .u64 y] w fun e w'=>e=.returned (.int .u64 (x / 2 ^ (y % 64).toNat))∧w=w':=by
 have h1:0≤y % 64:=by omega
 have h2:(y % 64).toNat<64:=by omega
 go_enter Tryz.func196,Tryz.ntmps196
 go_wp2
 go_ret
 exact ⟨rfl,rfl⟩
theorem fjmp (x y:Int) (w:World):Calls Tryz.prog 197 #[.int .u64 x,.int .u64 y] w fun e w'=>e=.returned (.bool (true))∧w=w':=by
 go_enter Tryz.func197,Tryz.ntmps197
 go_wp2
 go_ret
 exact ⟨rfl,rfl⟩
theorem feq (x y:Int) (w:World):Calls Tryz.prog 198 #[.int .u64 x,.int .u64 y] w fun e w'=>e=.returned (.bool (x==y))∧w=w':=by
 go_enter Tryz.func198,Tryz.ntmps198
 go_wp2
 go_ret
 exact ⟨rfl,rfl⟩
theorem fne (x y:Int) (w:World):Calls Tryz.prog 199 #[.int .u64 x,.int .u64 y] w fun e w'=>e=.returned (.bool (x !=y))∧w=w':=by
 go_enter Tryz.func199,Tryz.ntmps199
 go_wp2
 go_ret
 exact ⟨rfl,rfl⟩
theorem flt (x y:Int) (w:World):Calls Tryz.prog 200 #[.int .u64 x,.int .u64 y] w fun e w'=>e=.returned (.bool (decide (x<y)))∧w=w':=by
 go_enter Tryz.func200,Tryz.ntmps200
 go_wp2
 go_ret
 exact ⟨rfl,rfl⟩
def doV (op b c:Int):Int:=if op=2 then IntKind.u64.wrap (b+c) else if op=3 then IntKind.u64.wrap (b-c) else if op=4 then bits .and .u64 b c else if op=5 then bits .xor .u64 b c else if op=6 then IntKind.u64.wrap (b*2 ^ (c % 64).toNat) else if op=7 then b / 2 ^ (c % 64).toNat else 0
def doK (op:Int):Bool:=decide (op=2∨op=3∨op=4∨op=5∨op=6∨op=7)
def goV (op a b:Int):Bool:=if op=17 then true else if op=18 then a==b else if op=19 then a !=b else if op=20 then decide (a<b) else false
def goK (op:Int):Bool:=decide (op=17∨op=18∨op=19∨op=20)
theorem Qes (r g:Value) (w:World):(Instr.field 252 (.agg #[r,g]) 0).run Tryz.prog w=.ok r w:=by kernel_rfl
theorem Qie (r g:Value) (w:World):(Instr.field 252 (.agg #[r,g]) 1).run Tryz.prog w=.ok g w:=by kernel_rfl
theorem some_r (n:Nat) (w:World):(binOp .eql 249 (.func (.func n) #[] #[]) .nilFunc).run Tryz.prog w=.ok (.bool false) w:=by kernel_rfl
theorem nil_r (w:World):(binOp .eql 249 .nilFunc .nilFunc).run Tryz.prog w=.ok (.bool true) w:=by kernel_rfl
theorem some_g (n:Nat) (w:World):(binOp .eql 250 (.func (.func n) #[] #[]) .nilFunc).run Tryz.prog w=.ok (.bool false) w:=by kernel_rfl
theorem nil_g (w:World):(binOp .eql 250 .nilFunc .nilFunc).run Tryz.prog w=.ok (.bool true) w:=by kernel_rfl
theorem Qgd (op b c:Int) (hc:0≤c) (w:World):Calls Tryz.prog 111 #[.int .i64 op,.int .u64 b,.int .u64 c] w fun e w'=>e=.returned (.tuple #[.int .u64 (doV op b c),.bool (doK op)])∧w'=mapW w 10:=by
 have hl:=look_map op w
 by_cases h2:op=2
 ·subst h2
  rw [show recF 2=.func (.func 191) #[] #[] from rfl] at hl
  have hf:=Qes (.func (.func 191) #[] #[]) (goF 2) (mapW w 10)
  have hn:=some_r 191 (mapW w 10)
  go_enter Tryz.func111,Tryz.ntmps111
  go_wp2_with (first |(go_at_call 144;refine (Qa7 _).mono ?_;rintro e w' ⟨rfl,rfl⟩)|(go_at_call 191;refine (fadd _ _ _).mono ?_;rintro e w' ⟨rfl,rfl⟩))
  go_ret2
  exact ⟨rfl,rfl⟩
 by_cases h3:op=3
 ·subst h3
  rw [show recF 3=.func (.func 192) #[] #[] from rfl] at hl
  have hf:=Qes (.func (.func 192) #[] #[]) (goF 3) (mapW w 10)
  have hn:=some_r 192 (mapW w 10)
  go_enter Tryz.func111,Tryz.ntmps111
  go_wp2_with (first |(go_at_call 144;refine (Qa7 _).mono ?_;rintro e w' ⟨rfl,rfl⟩)|(go_at_call 192;refine (fsub _ _ _).mono ?_;rintro e w' ⟨rfl,rfl⟩))
  go_ret2
  exact ⟨rfl,rfl⟩
 by_cases h4:op=4
 ·subst h4
  rw [show recF 4=.func (.func 193) #[] #[] from rfl] at hl
  have hf:=Qes (.func (.func 193) #[] #[]) (goF 4) (mapW w 10)
  have hn:=some_r 193 (mapW w 10)
  go_enter Tryz.func111,Tryz.ntmps111
  go_wp2_with (first |(go_at_call 144;refine (Qa7 _).mono ?_;rintro e w' ⟨rfl,rfl⟩)|(go_at_call 193;refine (fand _ _ _).mono ?_;rintro e w' ⟨rfl,rfl⟩))
  go_ret2
  exact ⟨rfl,rfl⟩
 by_cases h5:op=5
 ·subst h5
  rw [show recF 5=.func (.func 194) #[] #[] from rfl] at hl
  have hf:=Qes (.func (.func 194) #[] #[]) (goF 5) (mapW w 10)
  have hn:=some_r 194 (mapW w 10)
  go_enter Tryz.func111,Tryz.ntmps111
  go_wp2_with (first |(go_at_call 144;refine (Qa7 _).mono ?_;rintro e w' ⟨rfl,rfl⟩)|(go_at_call 194;refine (fxor _ _ _).mono ?_;rintro e w' ⟨rfl,rfl⟩))
  go_ret2
  exact ⟨rfl,rfl⟩
 by_cases h6:op=6
 ·subst h6
  rw [show recF 6=.func (.func 195) #[] #[] from rfl] at hl
  have hf:=Qes (.func (.func 195) #[] #[]) (goF 6) (mapW w 10)
  have hn:=some_r 195 (mapW w 10)
  go_enter Tryz.func111,Tryz.ntmps111
  go_wp2_with (first |(go_at_call 144;refine (Qa7 _).mono ?_;rintro e w' ⟨rfl,rfl⟩)|(go_at_call 195;refine (fshl _ _ hc _).mono ?_;rintro e w' ⟨rfl,rfl⟩))
  go_ret2
  exact ⟨rfl,rfl⟩
 by_cases h7:op=7
 ·subst h7
  rw [show recF 7=.func (.func 196) #[] #[] from rfl] at hl
  have hf:=Qes (.func (.func 196) #[] #[]) (goF 7) (mapW w 10)
  have hn:=some_r 196 (mapW w 10)
  go_enter Tryz.func111,Tryz.ntmps111
  go_wp2_with (first |(go_at_call 144;refine (Qa7 _).mono ?_;rintro e w' ⟨rfl,rfl⟩)|(go_at_call 196;refine (fshr _ _ hc _).mono ?_;rintro e w' ⟨rfl,rfl⟩))
  go_ret2
  exact ⟨rfl,rfl⟩
 rw [show recF op=.nilFunc by simp [recF,h2,h3,h4,h5,h6,h7]] at hl
 rw [show doV op b c=0 by simp [doV,h2,h3,h4,h5,h6,h7],show doK op=false by simp [doK,h2,h3,h4,h5,h6,h7]]
 have hf:=Qes .nilFunc (goF op) (mapW w 10)
 have hn:=nil_r (mapW w 10)
 clear h2 h3 h4 h5 h6 h7
 go_enter Tryz.func111,Tryz.ntmps111
 go_wp2_with (go_at_call 144;refine (Qa7 _).mono ?_;rintro e w' ⟨rfl,rfl⟩)
 go_ret2
 exact ⟨rfl,rfl⟩
theorem ggo_any (op a b:Int) (w:World):Calls Tryz.prog 145 #[.int .i64 op,.int .u64 a,.int .u64 b] w fun e w'=>e=.returned (.tuple #[.bool (goV op a b),.bool (goK op)])∧w'=mapW w 10:=by
 have hl:=look_map op w
 by_cases h17:op=17
 ·subst h17
  rw [show goF 17=.func (.func 197) #[] #[] from rfl] at hl
  have hf:=Qie (recF 17) (.func (.func 197) #[] #[]) (mapW w 10)
  have hn:=some_g 197 (mapW w 10)
  go_enter Tryz.func145,Tryz.ntmps145
  go_wp2_with (first |(go_at_call 144;refine (Qa7 _).mono ?_;rintro e w' ⟨rfl,rfl⟩)|(go_at_call 197;refine (fjmp _ _ _).mono ?_;rintro e w' ⟨rfl,rfl⟩))
  go_ret2
  exact ⟨rfl,rfl⟩
 by_cases h18:op=18
 ·subst h18
  rw [show goF 18=.func (.func 198) #[] #[] from rfl] at hl
  have hf:=Qie (recF 18) (.func (.func 198) #[] #[]) (mapW w 10)
  have hn:=some_g 198 (mapW w 10)
  go_enter Tryz.func145,Tryz.ntmps145
  go_wp2_with (first |(go_at_call 144;refine (Qa7 _).mono ?_;rintro e w' ⟨rfl,rfl⟩)|(go_at_call 198;refine (feq _ _ _).mono ?_;rintro e w' ⟨rfl,rfl⟩))
  go_ret2
  exact ⟨rfl,rfl⟩
 by_cases h19:op=19
 ·subst h19
  rw [show goF 19=.func (.func 199) #[] #[] from rfl] at hl
  have hf:=Qie (recF 19) (.func (.func 199) #[] #[]) (mapW w 10)
  have hn:=some_g 199 (mapW w 10)
  go_enter Tryz.func145,Tryz.ntmps145
  go_wp2_with (first |(go_at_call 144;refine (Qa7 _).mono ?_;rintro e w' ⟨rfl,rfl⟩)|(go_at_call 199;refine (fne _ _ _).mono ?_;rintro e w' ⟨rfl,rfl⟩))
  go_ret2
  exact ⟨rfl,rfl⟩
 by_cases h20:op=20
 ·subst h20
  rw [show goF 20=.func (.func 200) #[] #[] from rfl] at hl
  have hf:=Qie (recF 20) (.func (.func 200) #[] #[]) (mapW w 10)
  have hn:=some_g 200 (mapW w 10)
  go_enter Tryz.func145,Tryz.ntmps145
  go_wp2_with (first |(go_at_call 144;refine (Qa7 _).mono ?_;rintro e w' ⟨rfl,rfl⟩)|(go_at_call 200;refine (flt _ _ _).mono ?_;rintro e w' ⟨rfl,rfl⟩))
  go_ret2
  exact ⟨rfl,rfl⟩
 rw [show goF op=.nilFunc by simp [goF,h17,h18,h19,h20]] at hl
 rw [show goV op a b=false by simp [goV,h17,h18,h19,h20],show goK op=false by simp [goK,h17,h18,h19,h20]]
 have hf:=Qie (recF op) .nilFunc (mapW w 10)
 have hn:=nil_g (mapW w 10)
 clear h17 h18 h19 h20
 go_enter Tryz.func145,Tryz.ntmps145
 go_wp2_with (go_at_call 144;refine (Qa7 _).mono ?_;rintro e w' ⟨rfl,rfl⟩)
 go_ret2
 exact ⟨rfl,rfl⟩
theorem gsum_any (b k:Int) (w:World):Calls Tryz.prog 147 #[.int .u64 b,.int .i64 k] w fun e w'=>e=.returned (.int .u64 (IntKind.u64.wrap (b+IntKind.u64.wrap k)))∧w=w':=by
 go_enter Tryz.func147,Tryz.ntmps147
 go_wp2
 go_ret
 exact ⟨rfl,rfl⟩
end
section
structure Ins where
 op:Int
 a:Int
 b:Int
 c:Int
 im:Int
deriving DecidableEq
def insZ:Ins:=⟨0,0,0,0,0⟩
def Ins.enc (i:Ins):List Value:=[.int .i64 i.op,.int .i64 i.a,.int .i64 i.b,.int .i64 i.c,.int .i64 i.im]
def insc (i:Ins):Array Value:=(Ins.enc i).toArray
def hasA (op:Int):Bool:=(decide (1≤op)&&decide (op≤11))||(decide (18≤op)&&decide (op≤21))
def hasB (op:Int):Bool:=(decide (2≤op)&&decide (op≤14))||(decide (18≤op)&&decide (op≤20))
def hasC (op:Int):Bool:=(decide (2≤op)&&decide (op≤7))||(decide (10≤op)&&decide (op≤11))
def hasI (op:Int):Bool:=op==1||(decide (8≤op)&&decide (op≤9))||(decide (12≤op)&&decide (op≤14))||(decide (17≤op)&&decide (op≤20))
def J7 (op:Int):Bool:=decide (17≤op)&&decide (op≤20)
def isOpB (op:Int):Bool:=decide (0≤op)&&decide (op≤22)
def Yr (r:Int) (has:Bool):Bool:=if has then decide (0≤r)&&decide (r<8) else r==0
def XK (im:Int) (hi jb:Bool):Bool:=if hi then (if jb&&decide (im<0) then false else decide (-2147483648≤im)&&decide (im≤2147483647)) else im==0
def JC (im:Int) (op:Int):Bool:=XK im (hasI op) (J7 op)
def YF (i:Ins):Bool:=isOpB i.op&&(Yr i.a (hasA i.op)&&(Yr i.b (hasB i.op)&&(Yr i.c (hasC i.op)&&JC i.im i.op)))
def JI (i:Ins):Int:=i.op+i.a*256+i.b*4096+i.c*65536+(i.im % 4294967296)*4294967296
def imOf (h:Int):Int:=if h<2147483648 then h else h- 4294967296
def Qz (u:Int):Ins:=⟨u % 256,u / 256 % 16,u / 4096 % 16,u / 65536 % 16,imOf (u / 4294967296)⟩
def decB (u:Int):Bool:=YF (Qz u)&&JI (Qz u)==u
def decI (u:Int):Ins:=if decB u then Qz u else insZ
theorem ZA {r:Int} {h:Bool} (g:Yr r h=true):0≤r∧r<8:=by
 unfold Yr at g
 split at g<;>simp at g<;>omega
theorem goodM_le {m op:Int} (g:JC m op=true): -2147483648≤m∧m≤2147483647:=by
 unfold JC XK at g
 split at g
 ·split at g
  ·cases g
  ·simp at g;omega
 ·simp at g;omega
theorem Zw {i:Ins} (g:YF i=true):(0≤i.op∧i.op≤22)∧(0≤i.a∧i.a<8)∧(0≤i.b∧i.b<8)∧(0≤i.c∧i.c<8)∧ -2147483648≤i.im∧i.im≤2147483647:=by
 simp only [YF,isOpB,Bool.and_eq_true,decide_eq_true_eq] at g
 obtain ⟨h1,h2,h3,h4,h5⟩:=g
 exact ⟨h1,ZA h2,ZA h3,ZA h4,goodM_le h5⟩
structure Co where
 id:Int
 ru:Bool
 rg:List Int
 pr:List (Int×Bool)
 pc:Nat
 rm:Nat
 es:List Se
 wt:Nat
def regN (rg:List Int) (a:Nat):Int:=rg.getD a 0
def regA (Q:Co) (r:Int):Int:=regN Q.rg r.toNat
def setR (Q:Co) (r v:Int):Co:={Q with rg:=Q.rg.set r.toNat v}
def Yo (Q:Co):Co:={Q with pc:=Q.pc+1}
def Qez (Q:Co):Co:={Q with ru:=false}
def evC (Q:Co) (kd li wo va:Int):Ev:=⟨kd,Q.id,li,wo,va⟩
def Yu (Q:Co):Bool:=Q.es.isEmpty&&Q.wt==0
structure Qgl where
 S:Mst
 Q:Co
 ev:List Ev
def Qfy (Q:Co) (i:Ins):Int:=IntKind.u64.wrap (regA Q i.b+IntKind.u64.wrap i.im)
def atB (li ad:Int):Bool:=ad % 8==0&&decide (ad / 64<li)
def lineOf (ad:Int):Int:=ad / 64
def wordOf (ad:Int):Int:=ad % 64 / 8
def Qf7 (c:Cg) (S:Mst) (Q:Co) (a li wo:Int):Qgl:=
 match fdO Q.es li wo with
 |some e=>⟨S,Yo (setR Q a e.va),[evC Q 2 li wo e.va]⟩
 |none=>if (loadM c S Q.id li wo).2.hit then ⟨(loadM c S Q.id li wo).1,Yo (setR Q a (loadM c S Q.id li wo).2.v),[evC Q 1 li wo (loadM c S Q.id li wo).2.v]⟩ else ⟨(loadM c S Q.id li wo).1,Q,[]⟩
def putC (S:Mst) (Q:Co) (kd:Int) (e:Se):Qgl:=
 if sbV Q.rm Q.es e=0 then ⟨S,Yo {Q with es:=sbE Q.rm Q.es e},[evC Q kd e.li e.wo e.va]⟩ else ⟨S,Q,[]⟩
def chgV (Q:Co) (i:Ins) (old:Int):Int:=if i.op=10 then regA Q i.c else IntKind.u64.wrap (old+regA Q i.c)
def chgB (Q:Co) (i:Ins) (old:Int):Bool:=if i.op=10 then old==regA Q i.a else true
def Qaq (c:Cg) (S:Mst) (Q:Co) (i:Ins) (li wo:Int):Qgl:=
 if Yu Q then
  if (reachM c S Q.id li).2.hit then
   if chgB Q i (loadM c (reachM c S Q.id li).1 Q.id li wo).2.v then
    ⟨(storeM c (loadM c (reachM c S Q.id li).1 Q.id li wo).1 Q.id li wo (chgV Q i (loadM c (reachM c S Q.id li).1 Q.id li wo).2.v)).1,Yo (setR Q i.a (loadM c (reachM c S Q.id li).1 Q.id li wo).2.v),[evC Q 4 li wo (loadM c (reachM c S Q.id li).1 Q.id li wo).2.v,evC Q 3 li wo (chgV Q i (loadM c (reachM c S Q.id li).1 Q.id li wo).2.v)]⟩
   else ⟨(loadM c (reachM c S Q.id li).1 Q.id li wo).1,Yo (setR Q i.a (loadM c (reachM c S Q.id li).1 Q.id li wo).2.v),[evC Q 4 li wo (loadM c (reachM c S Q.id li).1 Q.id li wo).2.v]⟩
  else ⟨(reachM c S Q.id li).1,Q,[]⟩
 else ⟨S,Q,[]⟩
def Xk (c:Cg) (S:Mst) (Q:Co) (i:Ins):Qgl:=
 if atB c.li (Qfy Q i) then
  if i.op=8 then Qf7 c S Q i.a (lineOf (Qfy Q i)) (wordOf (Qfy Q i))
  else if i.op=9 then putC S Q 12 ⟨9,lineOf (Qfy Q i),wordOf (Qfy Q i),regA Q i.a,false⟩
  else if i.op=10∨i.op=11 then Qaq c S Q i (lineOf (Qfy Q i)) (wordOf (Qfy Q i))
  else putC S Q 14 ⟨i.op,lineOf (Qfy Q i),0,0,false⟩
 else ⟨S,Qez Q,[evC Q 10 0 0 0]⟩
def insC (c:Cg) (S:Mst) (Q:Co) (i:Ins):Qgl:=
 if i.op=0 then ⟨S,Yo Q,[]⟩
 else if i.op=1 then ⟨S,Yo (setR Q i.a (IntKind.u64.wrap i.im)),[]⟩
 else if i.op≤7 then ⟨S,Yo (setR Q i.a (doV i.op (regA Q i.b) (regA Q i.c))),[]⟩
 else if 17≤i.op∧i.op≤20 then ⟨S,(if goV i.op (regA Q i.a) (regA Q i.b) then {Q with pc:=i.im.toNat} else Yo Q),[]⟩
 else if i.op=21 then ⟨S,Yo Q,[evC Q 8 0 0 (regA Q i.a)]⟩
 else if i.op=22 then ⟨S,Qez Q,[evC Q 9 0 0 0]⟩
 else if i.op=15∨i.op=16 then (if Yu Q then ⟨S,Yo Q,[evC Q 7 0 0 0]⟩ else ⟨S,Q,[]⟩)
 else Xk c S Q i
def QI (Q:Co) (u:Int):Co:={Q with pr:=Q.pr.set Q.pc (u,true)}
def Qcg (c:Cg) (S:Mst) (Q:Co):Qgl:=
 if Q.ru then
  match Q.pr[Q.pc]? with
  |none=>⟨S,Qez Q,[evC Q 10 0 0 0]⟩
  |some (u,_)=>if decB u then insC c S (QI Q u) (Qz u) else ⟨S,Qez (QI Q u),[evC Q 10 0 0 0]⟩
 else ⟨S,Q,[]⟩
def JK (kd:Int):Int:=if kd=12 then 4 else 5
def Qae (c:Cg) (S:Mst) (Q:Co):Qgl:=
 match Q.es with
 |[]=>⟨S,Q,[]⟩
 |e::rest=>
  if e.kd=9 then
   if (storeM c S Q.id e.li e.wo e.va).2.hit then ⟨(storeM c S Q.id e.li e.wo e.va).1,{Q with es:=rest},[evC Q 3 e.li e.wo e.va]⟩ else ⟨(storeM c S Q.id e.li e.wo e.va).1,Q,[]⟩
  else if e.sn then (if Q.wt=0 then ⟨S,{Q with es:=rest},[]⟩ else ⟨S,Q,[]⟩)
  else if 16≤Q.wt then ⟨S,Q,[]⟩
  else if (flushM c S Q.id e.li (JK e.kd)).2.e=0 then ⟨(flushM c S Q.id e.li (JK e.kd)).1,{Q with es:=(if e.kd=14 then sent e::rest else rest),wt:=Q.wt+1},[evC Q 13 e.li 0 0]⟩
  else ⟨(flushM c S Q.id e.li (JK e.kd)).1,Q,[]⟩
def Qdc (Q:Co) (m:Ms):Co×List Ev:=
 if Q.wt=0∨m.kd≠14 then (Q,[]) else ({Q with wt:=Q.wt-1},[evC Q 6 m.li 0 0])
end
section
def NN (cur:Nat→List Int):Prop:=∀i,∀x∈cur i,0≤x
structure PosC (Q:Co):Prop where
 rg:∀x∈Q.rg,0≤x
 es:∀e∈Q.es,0≤e.va
theorem Qcw (x:Int):0≤IntKind.u64.wrap x:=by
 have:IntKind.u64.wrap x=x % 18446744073709551616:=by simp [IntKind.wrap,IntKind.bits,IntKind.signed]
 omega
theorem and_pos (x y:Int):0≤bits .and .u64 x y:=Qcw _
theorem xor_pos (x y:Int):0≤bits .xor .u64 x y:=Qcw _
theorem Qev (op:Int) {b c:Int} (hb:0≤b):0≤doV op b c:=by
 unfold doV
 split
 ·exact Qcw _
 split
 ·exact Qcw _
 split
 ·exact and_pos _ _
 split
 ·exact xor_pos _ _
 split
 ·exact Qcw _
 split
 ·exact Int.ediv_nonneg hb (Int.pow_nonneg (by omega))
 ·omega
theorem getD_pos {l:List Int} (h:∀x∈l,0≤x) (i:Nat):0≤l.getD i 0:=by
 rw [List.getD_eq_getElem?_getD]
 cases e:l[i]? with
 |none=>simp
 |some x=>exact h x (List.mem_of_getElem? e)
theorem PosC.reg {Q:Co} (h:PosC Q) (r:Int):0≤regA Q r:=getD_pos h.rg _
theorem PosC.setR {Q:Co} (h:PosC Q) (r:Int) {v:Int} (hv:0≤v):PosC (setR Q r v):=by
 refine ⟨fun x hx=>?_,h.es⟩
 rcases List.mem_or_eq_of_mem_set hx with h1|rfl
 ·exact h.rg x h1
 ·exact hv
theorem PosC.next {Q:Co} (h:PosC Q):PosC (Yo Q):=⟨h.rg,h.es⟩
theorem PosC.stop {Q:Co} (h:PosC Q):PosC (Qez Q):=⟨h.rg,h.es⟩
theorem PosC.read {Q:Co} (h:PosC Q) (u:Int):PosC (QI Q u):=⟨h.rg,h.es⟩
theorem fdO_mem {es:List Se} {li wo:Int} {e:Se} (h:fdO es li wo=some e):e∈es:=by
 unfold fdO at h
 have:=List.mem_of_find?_eq_some h
 simpa using this
theorem loadF_miss {N M:Nat} {s:Sta} {li k:Int} (h:(loadF N M s li k).2.2.1=false):0≤(loadF N M s li k).2.1:=by
 unfold loadF at h ⊢
 split
 ·rename_i h1
  rw [if_pos h1] at h
  split
  ·rename_i h2
   rw [if_pos h2] at h
   cases h
  ·split<;>exact Int.le_refl _
 ·exact Int.le_refl _
structure Went (c:Cg) (n:Nat) (D:Qgl) (Q:Co) (cur':Nat→List Int):Prop where
 inv:Inv c n D.S cur'
 nn:NN cur'
 pos:PosC D.Q
 id:D.Q.id=Q.id
 rm:D.Q.rm=Q.rm
 wt:D.Q.wt=Q.wt
 es:D.Q.es.length≤max Q.es.length Q.rm
 calm:∀e∈D.ev,e.kd=7∨e.kd=4→Q.es=[]∧Q.wt=0
section
variable {c:Cg} {n:Nat} {S:Mst} {cur:Nat→List Int} (h:Inv c n S cur) (hN:NN cur)
include h hN
theorem NN.load {k li wd:Int} (hh:(loadM c S k li wd).2.hit=true):0≤(loadM c S k li wd).2.v:=by
 rw [(h.loadHit k li wd hh).2.2.2]
 exact getD_pos (hN _) _
theorem loadV_pos (k li wo:Int):0≤(loadM c S k li wo).2.v:=by
 cases hh:(loadM c S k li wo).2.hit
 ·unfold loadM at hh ⊢
  cases hp:Xp c S k with
  |none=>exact Int.le_refl _
  |some x=>
   rw [hp] at hh
   dsimp only at hh ⊢
   split
   ·rename_i h1
    rw [if_pos h1] at hh
    exact loadF_miss hh
   ·exact Int.le_refl _
 ·exact NN.load h hN hh
theorem NN.store {k li wd v:Int} (hv:0≤v):∃cur',Inv c (n+1) (storeM c S k li wd v).1 cur'∧NN cur':=by
 refine ⟨_,(h.storeM k li wd v).1,?_⟩
 split
 ·intro i x hx
  dsimp only at hx
  split at hx
  ·rcases List.mem_or_eq_of_mem_set hx with h1|rfl
   ·exact hN i x h1
   ·exact hv
  ·exact hN i x hx
 ·exact hN
variable {Q:Co} (hQ:PosC Q)
include hQ
theorem X6 {Q':Co} {l:List Ev} (m:Nat) (hp:PosC Q') (h1:Q'.id=Q.id) (h2:Q'.rm=Q.rm) (h3:Q'.wt=Q.wt) (h4:Q'.es=Q.es) (hl:∀e∈l,e.kd=7∨e.kd=4→Q.es=[]∧Q.wt=0):Went c (n+m) ⟨S,Q',l⟩ Q cur:=
 have _:=hQ
 ⟨h.mono (by omega),hN,hp,h1,h2,h3,by rw [h4];omega,hl⟩
theorem went_load (a li wo:Int):∃cur',Went c (n+2) (Qf7 c S Q a li wo) Q cur':=by
 unfold Qf7
 split
 ·rename_i e he
  exact ⟨cur,X6 h hN hQ 2 (hQ.setR a (hQ.es e (fdO_mem he))).next rfl rfl rfl rfl (by intro e he hk;simp only [List.mem_singleton] at he;subst he;rcases hk with hk|hk<;>cases hk)⟩
 ·split
  ·rename_i hh
   exact ⟨cur,(h.loadM _ _ _).mono (by omega),hN,(hQ.setR a (NN.load h hN hh)).next,rfl,rfl,rfl,Nat.le_max_left _ _,by intro e he hk;simp only [List.mem_singleton] at he;subst he;rcases hk with hk|hk<;>cases hk⟩
  ·exact ⟨cur,(h.loadM _ _ _).mono (by omega),hN,hQ,rfl,rfl,rfl,Nat.le_max_left _ _,by intro e he;cases he⟩
theorem went_put (kd:Int) (e:Se) (hk:kd≠7∧kd≠4) (he:0≤e.va):Went c (n+2) (putC S Q kd e) Q cur:=by
 unfold putC
 split
 ·rename_i h0
  refine ⟨h.mono (by omega),hN,⟨hQ.rg,?_⟩,rfl,rfl,rfl,?_,?_⟩
  ·show ∀x∈sbE Q.rm Q.es e,0≤x.va
   intro x hx
   unfold sbE at hx
   split at hx
   ·split at hx
    ·exact hQ.es x hx
    ·rcases List.mem_append.1 hx with h1|h1
     ·exact hQ.es x h1
     ·simp only [List.mem_singleton] at h1;subst h1;exact he
   ·exact hQ.es x hx
  ·show (sbE Q.rm Q.es e).length≤_
   unfold sbE
   split
   ·split
    ·omega
    ·rw [List.length_append,List.length_singleton];omega
   ·omega
  ·intro x hx hk2
   simp only [List.mem_singleton] at hx
   subst hx
   rcases hk2 with h2|h2
   ·exact absurd h2 hk.1
   ·exact absurd h2 hk.2
 ·exact X6 h hN hQ 2 hQ rfl rfl rfl rfl (by intro e he;cases he)
theorem Qhx:Yu Q=true↔Q.es=[]∧Q.wt=0:=by
 have _:=h
 have _:=hN
 have _:=hQ
 unfold Yu
 simp
theorem reach_hit {k li:Int} (hh:(reachM c S k li).2.hit=true):(reachM c S k li).1=S:=by
 have _:=h
 have _:=hN
 have _:=hQ
 unfold reachM at hh ⊢
 cases hp:Xp c S k with
 |none=>rfl
 |some x=>
  rw [hp] at hh
  dsimp only at hh ⊢
  split
  ·split
   ·rfl
   ·rename_i h1 h2
    rw [if_pos h1,if_neg h2] at hh
    cases hh
  ·rfl
theorem chgV_pos (i:Ins) {old:Int}:0≤chgV Q i old:=by
 have _:=h
 have _:=hN
 unfold chgV
 split
 ·exact hQ.reg _
 ·exact Qcw _
theorem went_change (i:Ins) (li wo:Int):∃cur',Went c (n+2) (Qaq c S Q i li wo) Q cur':=by
 unfold Qaq
 split
 ·rename_i h0
  have hs:=(Qhx h hN hQ).1 h0
  split
  ·rename_i hr
   rw [reach_hit h hN hQ hr]
   have hl:=h.loadM Q.id li wo
   have hv:0≤(loadM c S Q.id li wo).2.v:=loadV_pos h hN _ _ _
   split
   ·obtain ⟨cur',h1,h2⟩:=NN.store hl hN (k:=Q.id) (li:=li) (wd:=wo) (v:=chgV Q i (loadM c S Q.id li wo).2.v) (chgV_pos h hN hQ i)
    exact ⟨cur',h1,h2,(hQ.setR _ hv).next,rfl,rfl,rfl,Nat.le_max_left _ _,fun _ _ _=>hs⟩
   ·exact ⟨cur,hl.next,hN,(hQ.setR _ hv).next,rfl,rfl,rfl,Nat.le_max_left _ _,fun _ _ _=>hs⟩
  ·exact ⟨cur,(h.reachM _ _).next,hN,hQ,rfl,rfl,rfl,Nat.le_max_left _ _,by intro e he;cases he⟩
 ·exact ⟨cur,X6 h hN hQ 2 hQ rfl rfl rfl rfl (by intro e he;cases he)⟩
theorem ev_not {k li wo va:Int} (hk:k≠7∧k≠4):∀e∈[evC Q k li wo va],e.kd=7∨e.kd=4→Q.es=[]∧Q.wt=0:=by
 intro e he h2
 have _:=h
 have _:=hN
 have _:=hQ
 simp only [List.mem_singleton] at he
 subst he
 rcases h2 with h2|h2
 ·exact absurd h2 hk.1
 ·exact absurd h2 hk.2
theorem went_access (i:Ins):∃cur',Went c (n+2) (Xk c S Q i) Q cur':=by
 unfold Xk
 split
 ·split
  ·exact went_load h hN hQ _ _ _
  split
  ·exact ⟨cur,went_put h hN hQ 12 _ (by decide) (hQ.reg _)⟩
  split
  ·exact went_change h hN hQ _ _ _
  ·exact ⟨cur,went_put h hN hQ 14 _ (by decide) (Int.le_refl _)⟩
 ·exact ⟨cur,X6 h hN hQ 2 hQ.stop rfl rfl rfl rfl (ev_not h hN hQ (by decide))⟩
theorem went_ins (i:Ins):∃cur',Went c (n+2) (insC c S Q i) Q cur':=by
 have nil:∀e∈([]:List Ev),e.kd=7∨e.kd=4→Q.es=[]∧Q.wt=0:=by intro e he;cases he
 unfold insC
 split
 ·exact ⟨cur,X6 h hN hQ 2 hQ.next rfl rfl rfl rfl nil⟩
 split
 ·exact ⟨cur,X6 h hN hQ 2 (hQ.setR _ (Qcw _)).next rfl rfl rfl rfl nil⟩
 split
 ·exact ⟨cur,X6 h hN hQ 2 (hQ.setR _ (Qev _ (hQ.reg _))).next rfl rfl rfl rfl nil⟩
 split
 ·split
  ·exact ⟨cur,X6 h hN hQ 2 ⟨hQ.rg,hQ.es⟩ rfl rfl rfl rfl nil⟩
  ·exact ⟨cur,X6 h hN hQ 2 hQ.next rfl rfl rfl rfl nil⟩
 split
 ·exact ⟨cur,X6 h hN hQ 2 hQ.next rfl rfl rfl rfl (ev_not h hN hQ (by decide))⟩
 split
 ·exact ⟨cur,X6 h hN hQ 2 hQ.stop rfl rfl rfl rfl (ev_not h hN hQ (by decide))⟩
 split
 ·split
  ·rename_i h0
   exact ⟨cur,X6 h hN hQ 2 hQ.next rfl rfl rfl rfl (fun _ _ _=>(Qhx h hN hQ).1 h0)⟩
  ·exact ⟨cur,X6 h hN hQ 2 hQ rfl rfl rfl rfl nil⟩
 ·exact went_access h hN hQ i
theorem went_exec:∃cur',Went c (n+2) (Qcg c S Q) Q cur':=by
 unfold Qcg
 split
 ·split
  ·exact ⟨cur,X6 h hN hQ 2 hQ.stop rfl rfl rfl rfl (ev_not h hN hQ (by decide))⟩
  ·rename_i u b he
   split
   ·obtain ⟨cur',w⟩:=went_ins h hN (hQ.read u) (Qz u)
    exact ⟨cur',w.inv,w.nn,w.pos,w.id,w.rm,w.wt,w.es,w.calm⟩
   ·exact ⟨cur,X6 h hN hQ 2 (hQ.read u).stop rfl rfl rfl rfl (ev_not h hN hQ (by decide))⟩
 ·exact ⟨cur,X6 h hN hQ 2 hQ rfl rfl rfl rfl (by intro e he;cases he)⟩
end
structure Left13 (c:Cg) (n:Nat) (D:Qgl) (Q:Co) (cur':Nat→List Int):Prop where
 inv:Inv c n D.S cur'
 nn:NN cur'
 pos:PosC D.Q
 id:D.Q.id=Q.id
 rm:D.Q.rm=Q.rm
 wt:D.Q.wt≤max Q.wt 16
 es:D.Q.es.length≤Q.es.length
theorem left_drain {c:Cg} {n:Nat} {S:Mst} {cur:Nat→List Int} (h:Inv c n S cur) (hN:NN cur) {Q:Co} (hQ:PosC Q):∃cur',Left13 c (n+1) (Qae c S Q) Q cur':=by
 unfold Qae
 split
 ·exact ⟨cur,h.next,hN,hQ,rfl,rfl,Nat.le_max_left _ _,Nat.le_refl _⟩
 ·rename_i e rest he
  have hp:PosC {Q with es:=rest}:=⟨hQ.rg,fun x hx=>hQ.es x (by rw [he];exact List.mem_cons_of_mem _ hx)⟩
  have hv:0≤e.va:=hQ.es e (by rw [he];exact List.mem_cons_self)
  have hl:rest.length≤Q.es.length:=by rw [he,List.length_cons];omega
  split
  ·obtain ⟨cur',h1,h2⟩:=NN.store h hN (k:=Q.id) (li:=e.li) (wd:=e.wo) hv
   split
   ·exact ⟨cur',h1,h2,hp,rfl,rfl,Nat.le_max_left _ _,hl⟩
   ·exact ⟨cur',h1,h2,hQ,rfl,rfl,Nat.le_max_left _ _,Nat.le_refl _⟩
  split
  ·split
   ·exact ⟨cur,h.next,hN,hp,rfl,rfl,Nat.le_max_left _ _,hl⟩
   ·exact ⟨cur,h.next,hN,hQ,rfl,rfl,Nat.le_max_left _ _,Nat.le_refl _⟩
  split
  ·exact ⟨cur,h.next,hN,hQ,rfl,rfl,Nat.le_max_left _ _,Nat.le_refl _⟩
  have hf:=h.flushM Q.id e.li (JK e.kd)
  split
  ·refine ⟨cur,hf,hN,⟨hQ.rg,?_⟩,rfl,rfl,?_,?_⟩
   ·show ∀x∈(if e.kd=14 then sent e::rest else rest),0≤x.va
    intro x hx
    split at hx
    ·rcases List.mem_cons.1 hx with rfl|hx
     ·exact hv
     ·exact hp.es x hx
    ·exact hp.es x hx
   ·show Q.wt+1≤_
    omega
   ·show (if e.kd=14 then sent e::rest else rest).length≤_
    split
    ·rw [he];exact Nat.le_refl _
    ·exact hl
  ·exact ⟨cur,hf,hN,hQ,rfl,rfl,Nat.le_max_left _ _,Nat.le_refl _⟩
end
section
set_option linter.unusedSectionVars false
def MN (S:Mst):Prop:=(∀x∈S.X,0≤x)∧∀e∈S.en,∀x∈e.l,0≤x
theorem enE_pos:∀x∈enE.l,0≤x:=by decide
theorem mem_lnPut {xs l:List Int} {i:Nat} {x:Int} (h:x∈JN xs i l):x∈xs∨x∈l:=by
 unfold JN Zx at h
 simp only [List.mem_append] at h
 rcases h with (h|h)|h
 ·exact .inl (List.mem_of_mem_take h)
 ·exact .inr h
 ·exact .inl (List.mem_of_mem_drop h)
theorem mem_ln {xs:List Int} {i:Nat} {x:Int} (h:x∈ln xs i):x∈xs:=by
 unfold ln at h
 exact List.mem_of_mem_drop (List.mem_of_mem_take h)
theorem mem_lnG {xs:List Int} {i:Nat} {x:Int} (h:x∈lnG xs i):x∈xs∨x=0:=by
 unfold lnG at h
 split at h
 ·exact .inl (mem_ln h)
 ·right
  simp [zl8] at h
  exact h
theorem mem_forget {xs:List Int} {v:Nat} {x:Int} (h:x∈J4 xs v):x∈xs∨x=0:=by
 unfold J4 Zx at h
 simp only [List.mem_append] at h
 rcases h with (h|h)|h
 ·exact .inl (List.mem_of_mem_take h)
 ·exact .inr (List.eq_of_mem_replicate h)
 ·exact .inl (List.mem_of_mem_drop h)
theorem withoutE_l (e:En) (c:Int):(Q9 e c).l=e.l:=by unfold Q9;split<;>rfl
theorem writtenE_l (e:En) (m:Ms):(Zb e m).l=e.l∨((Zb e m).l=m.l∧m.di=true):=by
 unfold Zb
 split
 ·rename_i h;exact .inr ⟨rfl,h⟩
 ·exact .inl rfl
theorem deed_l (e:En) (k:Int) (m:Ms):(Yy e k m).1.l=e.l∨((Yy e k m).1.l=m.l∧m.kd=3∧e.ow=k∧m.di=true):=by
 unfold Yy
 split
 ·left
  unfold Qer
  split
  ·rfl
  ·split<;>rfl
 split
 ·left
  unfold Qgb
  split<;>rfl
 split
 ·rename_i h3
  unfold putE
  show (Q9 _ k).l=_∨((Q9 _ k).l=_∧_)
  rw [withoutE_l]
  split
  ·rename_i ho
   rcases writtenE_l e m with h|h
   ·exact .inl h
   ·exact .inr ⟨h.1,h3,ho,h.2⟩
  ·exact .inl rfl
 split
 ·exact .inl rfl
 ·exact .inl rfl
theorem ask_l {e e':En} {k:Int} {m:Ms} {d:List Sd} (h:askE e k m=((e',d),0)):e'.l=e.l∨(e'.l=m.l∧m.kd=3∧e.ow=k∧m.di=true):=by
 unfold askE at h
 split at h
 ·split at h
  ·injection h with _ h;cases h
  ·split at h
   ·injection h with _ h;cases h
   ·injection h with h _
    have:=congrArg Prod.fst h
    dsimp only at this
    rw [←this]
    exact deed_l e k m
 ·injection h with _ h;cases h
theorem ans_l {e e':En} {k:Int} {m:Ms} {d:List Sd} (h:ansE e k m=((e',d),0)):e'.l=e.l∨(e'.l=m.l∧m.di=true):=by
 have ha:(QQ e k m).l=e.l∨((QQ e k m).l=m.l∧m.di=true):=by
  have h1:=withoutE_l (Zb e m) k
  have h2:=writtenE_l e m
  rw [←h1] at h2
  unfold QQ
  dsimp only
  split
  ·exact h2
  ·exact h2
 unfold ansE at h
 split at h
 ·split at h
  ·split at h
   ·injection h with h _;injection h with h _
    subst h
    exact ha
   ·injection h with h _
    have h':=congrArg Prod.fst h
    dsimp only at h'
    rw [←h']
    have hs:(Yt (QQ e k m) m.li).1.l=(QQ e k m).l:=by
     unfold Yt
     split
     ·rfl
     ·split<;>rfl
    rw [hs]
    exact ha
  ·injection h with _ h;cases h
 ·injection h with _ h;cases h
section
variable {c:Cg} {n:Nat} {S:Mst} {cur:Nat→List Int} (h:Inv c n S cur) (hN:NN cur) (hM:MN S)
include hM
include h
theorem mn_load (k li wd:Int):MN (loadM c S k li wd).1:=by
 unfold loadM
 split
 ·exact hM
 ·split<;>exact hM
theorem mn_store (k li wd v:Int):MN (storeM c S k li wd v).1:=by
 unfold storeM
 split
 ·exact hM
 ·split<;>exact hM
theorem mn_reach (k li:Int):MN (reachM c S k li).1:=by
 unfold reachM
 split
 ·exact hM
 ·split
  ·split<;>exact hM
  ·exact hM
theorem mn_flush (k li kd:Int):MN (flushM c S k li kd).1:=by
 unfold flushM
 split
 ·exact hM
 ·split<;>exact hM
theorem mn_evict (k li:Int):MN (evictM c S k li).1:=by
 unfold evictM
 split
 ·exact hM
 ·split<;>exact hM
theorem mn_hear (k:Int):MN (hearM c S k).1:=by
 unfold hearM
 split
 ·exact hM
 ·split
  ·exact hM
  ·split<;>exact hM
theorem mn_set {i:Nat} {e':En} (he:∀x∈e'.l,0≤x) (ps:List Pt):MN ⟨ps,S.en.set i e',S.es,S.xs⟩:=by
 refine ⟨hM.1,fun e hm=>?_⟩
 rcases List.mem_or_eq_of_mem_set hm with h1|rfl
 ·exact hM.2 e h1
 ·exact he
include hN
theorem mn_up (k:Int):MN (upM c S k).1:=by
 unfold upM
 cases hp:Xp c S k with
 |none=>exact hM
 |some x=>
  obtain ⟨i,rfl,hi,hx,hat,hP,_⟩:=h.port hp
  dsimp only
  cases hu:x.up with
  |nil=>exact hM
  |cons m rest=>
   obtain ⟨q,e,hq,hqc,he,hc⟩:=h.up hi hx hu
   have eq:q=m.li.toNat:=by omega
   subst eq
   dsimp only
   rw [he]
   dsimp only
   rcases hc with ⟨_,h2⟩|⟨h0,o,a,e',h2,ha,ho,h3⟩
   ·rw [h2,if_neg (by decide)];exact hM
   ·rw [h2,if_pos rfl]
    refine mn_set h hM ?_ _
    have hl:=ask_l h2
    have hhl:∀y∈(Qce e (lnG S.X m.li.toNat) (Qa8 _ _)).l,0≤y:=by
     intro y hy
     unfold Qce at hy
     split at hy
     ·exact hM.2 e (List.mem_of_getElem? he) y hy
     ·rcases mem_lnG hy with h4|h4
      ·exact hM.1 y h4
      ·omega
    rcases hl with hl|⟨hl,h3k,how,hdi⟩
    ·rw [hl];exact hhl
    ·rw [hl]
     obtain ⟨e2,he2,hLI⟩:=h.entry hqc
     rw [he] at he2
     cases he2
     have hlen:(lnG S.X m.li.toNat).length=8:=Qa8 _ _
     have hX:lnG S.X m.li.toNat=ln S.X m.li.toNat:=lnG_eq (h.ln8 hqc)
     have hL1:LI c.co (cur m.li.toNat) (lnG S.X m.li.toNat) e (fun j=>vst (atP S.ps j) m.li.toNat) (fun j=>vln (atP S.ps j) m.li.toNat) (fun j=>upL (atP S.ps j) m.li.toNat) (fun j=>anL (atP S.ps j) m.li.toNat) (fun j=>dnL (atP S.ps j) m.li.toNat):=by rw [hX];exact hLI
     obtain ⟨hL2,hh,hbu⟩:=hL1.here hlen
     obtain ⟨_,_,_,hr⟩:=hL2.free hh (by rw [hbu];exact h0)
     have hr2:=hr i hi
     rw [hat,upL_cons hu m.li.toNat hq (by omega)] at hr2
     have:=(hr2.put h3k).1 (by simpa using how)
     rw [this.1 hdi]
     exact hN _
theorem mn_answer (k:Int):MN (answerM c S k).1:=by
 unfold answerM
 cases hp:Xp c S k with
 |none=>exact hM
 |some x=>
  obtain ⟨i,rfl,hi,hx,hat,hP,_⟩:=h.port hp
  dsimp only
  cases hu:x.an with
  |nil=>exact hM
  |cons m rest=>
   obtain ⟨q,e,hq,hqc,he,o,a,e',h2,ha,ho,_⟩:=h.answer hi hx hu
   dsimp only
   rw [hq,Int.toNat_natCast,he]
   dsimp only
   rw [h2,if_pos rfl]
   refine mn_set h hM ?_ _
   rcases ans_l h2 with hl|⟨hl,hdi⟩
   ·rw [hl];exact hM.2 e (List.mem_of_getElem? he)
   ·rw [hl]
    obtain ⟨e2,he2,hLI⟩:=h.entry hqc
    rw [he] at he2
    cases he2
    have hr:=hLI.rel i hi
    rw [hat,anL_cons hu q hq] at hr
    obtain ⟨_,_,_,_,_,h6,h7,_⟩:=hr.answer
    cases how:decide (e.ow=(i:Int))
    ·have:=h7 how
     rw [hdi] at this
     cases this
    ·rw [(h6 how).1 hdi]
     exact hN _
omit hN
theorem mn_save {i:Nat} (hi:i<c.li) {e e':En} (he:e∈S.en) (hl:∀x∈e'.l,0≤x) (hv:Qai c S.es i e=0) (ps:List Pt):MN ⟨ps,S.en.set i e',Jl c S.es i e,S.xs⟩:=by
 refine ⟨?_,(mn_set h hM hl ps).2⟩
 show ∀x∈over S.xs (Jl c S.es i e),0≤x
 rw [((h.saved hi e).2.2 hv).2]
 intro x hx
 split at hx
 ·rcases mem_lnPut hx with h1|h1
  ·exact hM.1 x h1
  ·exact hM.2 e he x h1
 ·exact hM.1 x hx
theorem mn_push (li:Int):MN (pushM c S li).1:=by
 unfold pushM
 split
 ·rename_i hl
  have hi:li.toNat<c.li:=by have:=X3.1 hl;omega
  obtain ⟨e,he,_⟩:=h.entry hi
  rw [he]
  dsimp only
  split
  ·split
   ·rename_i hv
    exact mn_save h hM hi (List.mem_of_getElem? he) (e':=(Jf e).setDi false) (hM.2 e (List.mem_of_getElem? he)) hv _
   ·rename_i hv
    rw [(h.saved hi e).2.1 hv]
    exact hM
  ·exact hM
 ·exact hM
theorem mn_drop (li:Int):MN (dropM c S li).1:=by
 unfold dropM
 split
 ·rename_i hl
  have hi:li.toNat<c.li:=by have:=X3.1 hl;omega
  obtain ⟨e,he,_⟩:=h.entry hi
  rw [he]
  dsimp only
  split
  ·exact hM
  ·split
   ·rename_i hv
    exact mn_save h hM hi (List.mem_of_getElem? he) (e':=enE) enE_pos hv _
   ·rename_i hv
    rw [(h.saved hi e).2.1 hv]
    exact hM
 ·exact hM
theorem drain_X (li:Int):over (JO S.xs S.es li) (JW S.es li)=S.X:=by
 by_cases hf:Qan S.es li<S.es.length
 ·obtain ⟨e,he,hp,hb⟩:=Qge hf
  unfold JO JW
  rw [he]
  exact over_drain S.xs h.xs h.lie he (fun x hx=>by have:=hb x hx;omega)
 ·unfold JW JO
  rw [List.eraseIdx_of_length_le (by omega),List.getElem?_eq_none (by omega)]
  rfl
theorem mn_drain (li:Int):MN (drainM c S li).1:=by
 unfold drainM
 split
 ·refine ⟨?_,hM.2⟩
  show ∀x∈over (JO S.xs S.es li) (JW S.es li),0≤x
  rw [drain_X h hM]
  exact hM.1
 ·exact hM
theorem mn_fail:MN (failM c S):=by
 refine ⟨?_,?_⟩
 ·intro x hx
  rcases mem_forget (show x∈J4 S.X c.vo from hx) with h1|h1
  ·exact hM.1 x h1
  ·omega
 ·intro e he x hx
  have:e=enE:=List.eq_of_mem_replicate he
  rw [this] at hx
  exact enE_pos x hx
end
end
section
theorem Ins.len (i:Ins):(Ins.enc i).length=5:=rfl
theorem Ins.one (i:Ins):∀v∈Ins.enc i,v.oneCell'=true:=by
 intro v hv
 simp only [Ins.enc,List.mem_cons,Vn,or_false] at hv
 rcases hv with rfl|rfl|rfl|rfl|rfl<;>rfl
theorem QG (i:Ins):(insc i).size=5:=by simp [insc,Ins.enc]
theorem ZQ (i:Ins):J6 (insc i):=Qp _ (List.all_eq_true.2 (Ins.one i))
theorem Xh (i:Ins):(insc i)[0]? =some (.int .i64 i.op):=rfl
theorem XW (i:Ins):(insc i)[1]? =some (.int .i64 i.a):=rfl
theorem XV (i:Ins):(insc i)[2]? =some (.int .i64 i.b):=rfl
theorem XU (i:Ins):(insc i)[3]? =some (.int .i64 i.c):=rfl
theorem Xj (i:Ins):(insc i)[4]? =some (.int .i64 i.im):=rfl
theorem ZR (o a b c m:Int):(#[.int .i64 o,.int .i64 a,.int .i64 b,.int .i64 c,.int .i64 m]:Array Value)=insc ⟨o,a,b,c,m⟩:=rfl
theorem XT:insc ⟨0,0,0,0,0⟩=insc insZ:=rfl
theorem Qco (i:Ins) (v:Int):(insc i).setIfInBounds 0 (.int .i64 v)=insc ⟨v,i.a,i.b,i.c,i.im⟩:=by simp [insc,Ins.enc]
theorem Qcn (i:Ins) (v:Int):(insc i).setIfInBounds 1 (.int .i64 v)=insc ⟨i.op,v,i.b,i.c,i.im⟩:=by simp [insc,Ins.enc]
theorem Qcm (i:Ins) (v:Int):(insc i).setIfInBounds 2 (.int .i64 v)=insc ⟨i.op,i.a,v,i.c,i.im⟩:=by simp [insc,Ins.enc]
theorem Qcl (i:Ins) (v:Int):(insc i).setIfInBounds 3 (.int .i64 v)=insc ⟨i.op,i.a,i.b,v,i.im⟩:=by simp [insc,Ins.enc]
theorem Qck (i:Ins) (v:Int):(insc i).setIfInBounds 4 (.int .i64 v)=insc ⟨i.op,i.a,i.b,i.c,v⟩:=by simp [insc,Ins.enc]
theorem insZ_op:insZ.op=0:=rfl
theorem insZ_a:insZ.a=0:=rfl
theorem insZ_b:insZ.b=0:=rfl
theorem insZ_c:insZ.c=0:=rfl
theorem insZ_im:insZ.im=0:=rfl
theorem Xi (i:Ins):(insc i=#[])=False:=eq_false (fun h=>by have:=congrArg Array.size h;rw [QG] at this;cases this)
def stI (x:Int×Bool):Ins:=if x.2 then decI x.1 else insZ
def stG (x:Int×Bool):Bool:=x.2&&decB x.1
def stD (x:Int×Bool):Int:=if x.2 then 1 else 0
def coc (id:Int) (ru:Bool) (rg:List Int) (pb np:Nat) (pc:Int) (qb:Nat) (wt:Int):Array Value:=
 (.int .i64 id::.bool ru::(rg.map (Value.int .u64)++[.slice (some ⟨pb,0,none⟩) np np,.int .i64 pc,.pointer (some ⟨qb,0,none⟩),.int .i64 wt])).toArray
section
variable {rg:List Int} (h8:rg.length=8) (id:Int) (ru:Bool) (pb np:Nat) (pc:Int) (qb:Nat) (wt:Int)
theorem YX:(coc id ru rg pb np pc qb wt)[0]? =some (.int .i64 id):=by simp [coc]
theorem YT:(coc id ru rg pb np pc qb wt)[1]? =some (.bool ru):=by simp [coc]
theorem QY (v:Bool):(coc id ru rg pb np pc qb wt).setIfInBounds 1 (.bool v)=coc id v rg pb np pc qb wt:=by simp [coc]
include h8
theorem XE {a:Nat} (ha:a<8):(coc id ru rg pb np pc qb wt)[2+a]? =some (.int .u64 (regN rg a)):=by
 unfold coc regN
 rw [Nat.add_comm 2,List.getElem?_toArray,List.getElem?_cons_succ,List.getElem?_cons_succ,List.getElem?_append_left (by simp [h8];exact ha),List.getElem?_map]
 rw [List.getElem?_eq_getElem (by omega),List.getD_eq_getElem?_getD,List.getElem?_eq_getElem (by omega)]
 rfl
theorem YV:(coc id ru rg pb np pc qb wt)[10]? =some (.slice (some ⟨pb,0,none⟩) np np):=by
 unfold coc
 rw [List.getElem?_toArray,List.getElem?_cons_succ,List.getElem?_cons_succ,List.getElem?_append_right (by simp [h8])]
 simp [h8]
theorem YW:(coc id ru rg pb np pc qb wt)[11]? =some (.int .i64 pc):=by
 unfold coc
 rw [List.getElem?_toArray,List.getElem?_cons_succ,List.getElem?_cons_succ,List.getElem?_append_right (by simp [h8])]
 simp [h8]
theorem YU:(coc id ru rg pb np pc qb wt)[12]? =some (.pointer (some ⟨qb,0,none⟩)):=by
 unfold coc
 rw [List.getElem?_toArray,List.getElem?_cons_succ,List.getElem?_cons_succ,List.getElem?_append_right (by simp [h8])]
 simp [h8]
theorem YS:(coc id ru rg pb np pc qb wt)[13]? =some (.int .i64 wt):=by
 unfold coc
 rw [List.getElem?_toArray,List.getElem?_cons_succ,List.getElem?_cons_succ,List.getElem?_append_right (by simp [h8])]
 simp [h8]
theorem QZ (v:Int):(coc id ru rg pb np pc qb wt).setIfInBounds 11 (.int .i64 v)=coc id ru rg pb np v qb wt:=by
 unfold coc
 rw [List.setIfInBounds_toArray,List.set_cons_succ,List.set_cons_succ,List.set_append_right _ _ (by simp [h8])]
 simp [h8]
theorem QX (v:Int):(coc id ru rg pb np pc qb wt).setIfInBounds 13 (.int .i64 v)=coc id ru rg pb np pc qb v:=by
 unfold coc
 rw [List.setIfInBounds_toArray,List.set_cons_succ,List.set_cons_succ,List.set_append_right _ _ (by simp [h8])]
 simp [h8]
theorem QP {a:Nat} (ha:a<8) (v:Int):(coc id ru rg pb np pc qb wt).setIfInBounds (2+a) (.int .u64 v)=coc id ru (rg.set a v) pb np pc qb wt:=by
 unfold coc
 rw [Nat.add_comm 2,List.setIfInBounds_toArray,List.set_cons_succ,List.set_cons_succ,List.set_append_left _ _ (by simp [h8];exact ha),List.map_set]
end
end
section
theorem Xf:Wide Tryz.prog 68 5:=⟨⟨_,Tryz.underlying68,by rfl⟩,by kernel_rfl⟩
theorem Xg (x:Value):Instr.loadAt 68 x=Qda 68 5 x:=rfl
theorem ZP (x y:Value):Instr.storeAt 68 x y=Qag 68 5 x y:=rfl
def pts (a b c i j:Bool):Array Value:=#[.bool a,.bool b,.bool c,.bool i,.bool j]
theorem pts_lit (a b c i j:Bool):(#[.bool a,.bool b,.bool c,.bool i,.bool j]:Array Value)=pts a b c i j:=rfl
theorem Qat (a b c i j:Bool):(pts a b c i j).size=5:=by simp [pts]
theorem pts_one (a b c i j:Bool):J6 (pts a b c i j):=by simp [J6,pts,Value.oneCell']
theorem pts_0 (a b c i j:Bool):(pts a b c i j)[0]? =some (.bool a):=rfl
theorem pts_1 (a b c i j:Bool):(pts a b c i j)[1]? =some (.bool b):=rfl
theorem pts_2 (a b c i j:Bool):(pts a b c i j)[2]? =some (.bool c):=rfl
theorem pts_3 (a b c i j:Bool):(pts a b c i j)[3]? =some (.bool i):=rfl
theorem pts_4 (a b c i j:Bool):(pts a b c i j)[4]? =some (.bool j):=rfl
theorem pts_ne (a b c i j:Bool):(pts a b c i j=#[])=False:=eq_false (fun h=>by have:=congrArg Array.size h;rw [Qat] at this;cases this)
theorem Qhg (a b c i j v:Bool):(pts a b c i j).setIfInBounds 0 (.bool v)=pts v b c i j:=by simp [pts]
theorem Qhf (a b c i j v:Bool):(pts a b c i j).setIfInBounds 1 (.bool v)=pts a v c i j:=by simp [pts]
theorem Qhe (a b c i j v:Bool):(pts a b c i j).setIfInBounds 2 (.bool v)=pts a b v i j:=by simp [pts]
theorem Qhd (a b c i j v:Bool):(pts a b c i j).setIfInBounds 3 (.bool v)=pts a b c v j:=by simp [pts]
theorem Qhc (a b c i j v:Bool):(pts a b c i j).setIfInBounds 4 (.bool v)=pts a b c i v:=by simp [pts]
theorem widePts:Wide Tryz.prog 343 5:=⟨⟨_,Tryz.underlying343,by rfl⟩,by kernel_rfl⟩
theorem loadPts (x:Value):Instr.loadAt 343 x=Qda 343 5 x:=rfl
theorem Qg8 (x y:Value):Instr.storeAt 343 x y=Qag 343 5 x y:=rfl
attribute [local go_sem ↓] QE Qs Qk Qh heap_alloc Ql heap_setCell Qc Xg ZP loadPts Qg8 Xh XW XV XU Xj pts_0 pts_1 pts_2 pts_3 pts_4
attribute [local go_sem] Qb Qa Qd Qi Qe Qg Qf QB Qw QK QA Qr QD QW QJ Qq QC Qp Qj Qo Qn Xf widePts QG ZQ Xi ZR XT Qco Qcn Qcm Qcl Qck pts_lit Qat pts_one pts_ne Qhg Qhf Qhe Qhd Qhc
attribute [local simp ↓] Qk Qh heap_alloc Ql heap_setCell Qc
attribute [local simp] Qb Qa Qd Qi Qe Qg Qf Qr Qj Qo Qn QG Qat QD
theorem iisop (op:Int) (w:World):Calls Tryz.prog 266 #[.int .i64 op] w fun e w'=>e=.returned (.bool (isOpB op))∧w=w':=by
 unfold isOpB
 cases h1:decide (0≤op)
 ·go_enter Tryz.func266,Tryz.ntmps266
  go_wp2
  go_ret
  exact ⟨rfl,rfl⟩
 ·go_enter Tryz.func266,Tryz.ntmps266
  go_wp2
  go_ret
  exact ⟨rfl,rfl⟩
theorem Qbc (r:Int) (h:Bool) (w:World):Calls Tryz.prog 268 #[.int .i64 r,.bool h] w fun e w'=>e=.returned (.bool (Yr r h))∧w=w':=by
 cases h
 ·rw [show Yr r false=(r==0) from rfl]
  go_enter Tryz.func268,Tryz.ntmps268
  go_wp2
  go_ret
  exact ⟨rfl,rfl⟩
 ·rw [show Yr r true=(decide (0≤r)&&decide (r<8)) from rfl]
  cases h1:decide (0≤r)
  ·go_enter Tryz.func268,Tryz.ntmps268
   go_wp2
   go_ret
   exact ⟨rfl,rfl⟩
  ·go_enter Tryz.func268,Tryz.ntmps268
   go_wp2
   go_ret
   exact ⟨rfl,rfl⟩
theorem igoodImm (m:Int) (a b c i j:Bool) (w:World):Calls Tryz.prog 269 #[.int .i64 m,.agg (pts a b c i j)] w fun e w'=>e=.returned (.bool (XK m i j))∧Chg [] w w':=by
 have hc:∀x,(w.alloc (.cells (pts a b c i j) 343))=x→Chg [] w x:=fun x h=>h▸(Chg.refl [] w).alloc _
 cases i
 ·rw [show XK m false j=(m==0) from rfl]
  go_enter Tryz.func269,Tryz.ntmps269
  go_wp2
  go_ret
  exact ⟨rfl,hc _ rfl⟩
 cases j
 ·rw [show XK m true false=(decide (-2147483648≤m)&&decide (m≤2147483647)) from rfl]
  cases h1:decide (-2147483648≤m)
  ·go_enter Tryz.func269,Tryz.ntmps269
   go_wp2
   go_ret
   exact ⟨rfl,hc _ rfl⟩
  ·go_enter Tryz.func269,Tryz.ntmps269
   go_wp2
   go_ret
   exact ⟨rfl,hc _ rfl⟩
 ·cases h0:decide (m<0)
  ·rw [show XK m true true=(decide (-2147483648≤m)&&decide (m≤2147483647)) by unfold XK;rw [h0];rfl]
   cases h1:decide (-2147483648≤m)
   ·go_enter Tryz.func269,Tryz.ntmps269
    go_wp2
    go_ret
    exact ⟨rfl,hc _ rfl⟩
   ·go_enter Tryz.func269,Tryz.ntmps269
    go_wp2
    go_ret
    exact ⟨rfl,hc _ rfl⟩
  ·rw [show XK m true true=false by unfold XK;rw [h0];rfl]
   go_enter Tryz.func269,Tryz.ntmps269
   go_wp2
   go_ret
   exact ⟨rfl,hc _ rfl⟩
theorem results_pts {fn:Func} {p:Tmp} (h:fn.results=#[.cell p 343]) (tmps:Array Value) (w:World) (q:Nat) (a b c i j:Bool) (fr:Nat×Nat)
 (hp:tmps.getD p undef=.pointer (some ⟨q,0,none⟩)) (hb:w.heap[q]? =some (.cells (pts a b c i j) 343 fr)):(results fn tmps).run Tryz.prog w=.ok (.agg (pts a b c i j)) w:=by
 have hp':tmps[p]?.getD undef=.pointer (some ⟨q,0,none⟩):=by simpa using hp
 have:=run_loadVar_row (P:=Tryz.prog) w q 343 343 (pts a b c i j) fr _ hb Tryz.underlying343 rfl (by rw [Qat];kernel_rfl)
 simp [results,h,hp',asAddr,this]
theorem iparts_at (op:Int) (a b c i j:Bool) (h0:0≤op) (h22:op≤22) (ha:hasA op=a) (hb:hasB op=b) (hc:hasC op=c) (hi:hasI op=i) (hj:J7 op=j) (w:World):Calls Tryz.prog 267 #[.int .i64 op] w fun e w'=>e=.returned (.agg (pts a b c i j))∧Chg [] w w':=by
 have h:op=0∨op=1∨op=2∨op=3∨op=4∨op=5∨op=6∨op=7∨op=8∨op=9∨op=10∨op=11∨op=12∨op=13∨op=14∨op=15∨op=16∨op=17∨op=18∨op=19∨op=20∨op=21∨op=22:=by omega
 clear h0 h22
 rcases h with rfl|rfl|rfl|rfl|rfl|rfl|rfl|rfl|rfl|rfl|rfl|rfl|rfl|rfl|rfl|rfl|rfl|rfl|rfl|rfl|rfl|rfl|rfl
 all_goals
  subst ha hb hc hi hj
  go_enter Tryz.func267,Tryz.ntmps267
  try dsimp only [List.append]
  go_wp2_with fail
  refine bodyPost_ret (v:=.agg (pts _ _ _ _ _)) (results_pts (by rfl) _ _ w.heap.size _ _ _ _ _ (0,0) (by rfl) (by simp;try rfl)) (by rfl) ⟨rfl,(Chg.refl [] w).alloc _⟩
end
section
attribute [local go_sem ↓] QE Qs Qk Qh heap_alloc Ql heap_setCell Qc Xg ZP loadPts Qg8 Xh XW XV XU Xj pts_0 pts_1 pts_2 pts_3 pts_4
attribute [local go_sem] Qb Qa Qd Qi Qe Qg Qf QB Qw QK QA Qr QD QW QJ Qq QC Qp Qj Qo Qn Xf widePts QG ZQ Xi ZR XT Qco Qcn Qcm Qcl Qck pts_lit Qat pts_one pts_ne Qhg Qhf Qhe Qhd Qhc
attribute [local simp ↓] Qk Qh heap_alloc Ql heap_setCell Qc
attribute [local simp] Qb Qa Qd Qi Qe Qg Qf Qr Qj Qo Qn QG Qat QD
theorem igood_any (i:Ins) (w:World):Calls Tryz.prog 256 #[.agg (insc i)] w fun e w'=>e=.returned (.bool (YF i))∧Chg [] w w':=by
 have hx:(w.alloc (.cells (insc i) 68)).heap[w.heap.size]? =some (.cells (insc i) 68 (0,0)):=by simp
 have HC:=Vh ((Chg.refl [] w).alloc (.cells (insc i) 68))
 unfold YF
 cases h0:isOpB i.op
 ·go_enter Tryz.func256,Tryz.ntmps256
  go_wp2_with (go_at_call 266;refine (iisop _ _).mono ?_;rintro e w' ⟨rfl,rfl⟩)
  go_ret
  exact ⟨rfl,HC.out⟩
 have hr:0≤i.op∧i.op≤22:=by unfold isOpB at h0;simp at h0;exact h0
 have HR:=Vh hr
 clear hr
 have h1:Yr i.a (hasA i.op)=true∨Yr i.a (hasA i.op)=false:=by cases Yr i.a (hasA i.op)<;>simp
 have h2:Yr i.b (hasB i.op)=true∨Yr i.b (hasB i.op)=false:=by cases Yr i.b (hasB i.op)<;>simp
 have h3:Yr i.c (hasC i.op)=true∨Yr i.c (hasC i.op)=false:=by cases Yr i.c (hasC i.op)<;>simp
 unfold JC
 generalize ha:hasA i.op=a at *
 generalize hb:hasB i.op=b at *
 generalize hc:hasC i.op=c at *
 generalize hi:hasI i.op=d at *
 generalize hj:J7 i.op=j at *
 have HP:=Vh (fun w=>iparts_at i.op a b c d j HR.out.1 HR.out.2 ha hb hc hi hj w)
 clear ha hb hc hi hj
 rcases h1 with h1|h1
 ·rcases h2 with h2|h2
  ·rcases h3 with h3|h3
   ·rw [h1,h2,h3]
    show Calls _ _ _ _ fun e w'=>e=.returned (.bool (XK i.im d j))∧_
    have G0:=Vh (fun w=>Qbc i.a a w)
    rw [h1] at G0
    have G1:=Vh (fun w=>Qbc i.b b w)
    rw [h2] at G1
    have G2:=Vh (fun w=>Qbc i.c c w)
    rw [h3] at G2
    clear h1 h2 h3
    go_enter Tryz.func256,Tryz.ntmps256
    go_wp2_with (go_at_call 266;refine (iisop _ _).mono ?_;rintro e w' ⟨rfl,rfl⟩)
    generalize hw1:w.alloc (.cells (insc i) 68)=w1 at hx HC ⊢
    generalize hz:w.heap.size=p at hx ⊢
    refine (HP.out w1).mono ?_
    rintro e w2 ⟨rfl,c2⟩
    have hx2:=c2.keep hx (by simp)
    have HC2:=Vh (HC.out.trans c2)
    have ox:=old hx2
    have hy:(w2.alloc (.cells (pts a b c d j) 343)).heap[w2.heap.size]? =some (.cells (pts a b c d j) 343 (0,0)):=by simp
    clear c2 hx hw1 hz
    go_wp2_with (first |(go_at_call 268;(with_reducible refine (G0.out _).mono ?_);rintro e w' ⟨rfl,rfl⟩)|(go_at_call 268;(with_reducible refine (G1.out _).mono ?_);rintro e w' ⟨rfl,rfl⟩)|(go_at_call 268;(with_reducible refine (G2.out _).mono ?_);rintro e w' ⟨rfl,rfl⟩)|(go_at_call 269;refine (igoodImm _ _ _ _ _ _ _).mono ?_;rintro e w3 ⟨rfl,c3⟩))
    go_ret
    exact ⟨rfl,(HC2.out.alloc _).trans c3⟩
   ·rw [h1,h2,h3]
    show Calls _ _ _ _ fun e w'=>e=.returned (.bool (false))∧_
    have G0:=Vh (fun w=>Qbc i.a a w)
    rw [h1] at G0
    have G1:=Vh (fun w=>Qbc i.b b w)
    rw [h2] at G1
    have G2:=Vh (fun w=>Qbc i.c c w)
    rw [h3] at G2
    clear h1 h2 h3
    go_enter Tryz.func256,Tryz.ntmps256
    go_wp2_with (go_at_call 266;refine (iisop _ _).mono ?_;rintro e w' ⟨rfl,rfl⟩)
    generalize hw1:w.alloc (.cells (insc i) 68)=w1 at hx HC ⊢
    generalize hz:w.heap.size=p at hx ⊢
    refine (HP.out w1).mono ?_
    rintro e w2 ⟨rfl,c2⟩
    have hx2:=c2.keep hx (by simp)
    have HC2:=Vh (HC.out.trans c2)
    have ox:=old hx2
    have hy:(w2.alloc (.cells (pts a b c d j) 343)).heap[w2.heap.size]? =some (.cells (pts a b c d j) 343 (0,0)):=by simp
    clear c2 hx hw1 hz
    go_wp2_with (first |(go_at_call 268;(with_reducible refine (G0.out _).mono ?_);rintro e w' ⟨rfl,rfl⟩)|(go_at_call 268;(with_reducible refine (G1.out _).mono ?_);rintro e w' ⟨rfl,rfl⟩)|(go_at_call 268;(with_reducible refine (G2.out _).mono ?_);rintro e w' ⟨rfl,rfl⟩))
    go_ret
    exact ⟨rfl,HC2.out.alloc _⟩
  ·rw [h1,h2]
   show Calls _ _ _ _ fun e w'=>e=.returned (.bool (false))∧_
   have G0:=Vh (fun w=>Qbc i.a a w)
   rw [h1] at G0
   have G1:=Vh (fun w=>Qbc i.b b w)
   rw [h2] at G1
   clear h1 h2 h3
   go_enter Tryz.func256,Tryz.ntmps256
   go_wp2_with (go_at_call 266;refine (iisop _ _).mono ?_;rintro e w' ⟨rfl,rfl⟩)
   generalize hw1:w.alloc (.cells (insc i) 68)=w1 at hx HC ⊢
   generalize hz:w.heap.size=p at hx ⊢
   refine (HP.out w1).mono ?_
   rintro e w2 ⟨rfl,c2⟩
   have hx2:=c2.keep hx (by simp)
   have HC2:=Vh (HC.out.trans c2)
   have ox:=old hx2
   have hy:(w2.alloc (.cells (pts a b c d j) 343)).heap[w2.heap.size]? =some (.cells (pts a b c d j) 343 (0,0)):=by simp
   clear c2 hx hw1 hz
   go_wp2_with (first |(go_at_call 268;(with_reducible refine (G0.out _).mono ?_);rintro e w' ⟨rfl,rfl⟩)|(go_at_call 268;(with_reducible refine (G1.out _).mono ?_);rintro e w' ⟨rfl,rfl⟩))
   go_ret
   exact ⟨rfl,HC2.out.alloc _⟩
 ·rw [h1]
  show Calls _ _ _ _ fun e w'=>e=.returned (.bool (false))∧_
  have G0:=Vh (fun w=>Qbc i.a a w)
  rw [h1] at G0
  clear h1 h2 h3
  go_enter Tryz.func256,Tryz.ntmps256
  go_wp2_with (go_at_call 266;refine (iisop _ _).mono ?_;rintro e w' ⟨rfl,rfl⟩)
  generalize hw1:w.alloc (.cells (insc i) 68)=w1 at hx HC ⊢
  generalize hz:w.heap.size=p at hx ⊢
  refine (HP.out w1).mono ?_
  rintro e w2 ⟨rfl,c2⟩
  have hx2:=c2.keep hx (by simp)
  have HC2:=Vh (HC.out.trans c2)
  have ox:=old hx2
  have hy:(w2.alloc (.cells (pts a b c d j) 343)).heap[w2.heap.size]? =some (.cells (pts a b c d j) 343 (0,0)):=by simp
  clear c2 hx hw1 hz
  go_wp2_with (go_at_call 268;(with_reducible refine (G0.out _).mono ?_);rintro e w' ⟨rfl,rfl⟩)
  go_ret
  exact ⟨rfl,HC2.out.alloc _⟩
theorem or_sum (a b k:Nat) (h:b<2 ^ k) (hs:b+2 ^ k*a<18446744073709551616):bits .or .u64 (b:Int) ((2 ^ k*a:Nat):Int)=((b+2 ^ k*a:Nat):Int):=by
 rw [bits_or_u64_nat _ _ (by omega) (by omega),Nat.or_comm,←Nat.two_pow_add_eq_or_of_lt h,Nat.add_comm]
theorem or_int (x y:Int) (k:Nat) (a:Int) (hy:y=2 ^ k*a) (ha:0≤a) (h0:0≤x) (h:x<2 ^ k) (hs:x+y<18446744073709551616):bits .or .u64 x y=x+y:=by
 obtain ⟨X,rfl⟩:=Int.eq_ofNat_of_zero_le h0
 obtain ⟨A,rfl⟩:=Int.eq_ofNat_of_zero_le ha
 have e:y=((2 ^ k*A:Nat):Int):=by rw [hy];push_cast;rfl
 rw [e] at hs ⊢
 have h':X<2 ^ k:=by exact_mod_cast h
 rw [or_sum A X k h' (by omega)]
 push_cast
 rfl
theorem Qgx (x:Int):IntKind.u64.wrap x=x % 18446744073709551616:=by simp [IntKind.wrap,IntKind.bits,IntKind.signed]
theorem code_or {i:Ins} (h:YF i=true):bits BinOp.or IntKind.u64 (bits BinOp.or IntKind.u64 (IntKind.u64.wrap i.op) (bits BinOp.or IntKind.u64 (bits BinOp.or IntKind.u64 (IntKind.u64.wrap (IntKind.u64.wrap i.a*256)) (IntKind.u64.wrap (IntKind.u64.wrap i.b*4096))) (IntKind.u64.wrap (IntKind.u64.wrap i.c*65536)))) (IntKind.u64.wrap (IntKind.u64.wrap i.im*4294967296))=JI i:=by
 have ⟨h1,h2,h3,h4,h5⟩:=Zw h
 have ea:IntKind.u64.wrap (IntKind.u64.wrap i.a*256)=i.a*256:=by rw [Qgx,Qgx];omega
 have eb:IntKind.u64.wrap (IntKind.u64.wrap i.b*4096)=i.b*4096:=by rw [Qgx,Qgx];omega
 have ec:IntKind.u64.wrap (IntKind.u64.wrap i.c*65536)=i.c*65536:=by rw [Qgx,Qgx];omega
 have eo:IntKind.u64.wrap i.op=i.op:=by rw [Qgx];omega
 have em:IntKind.u64.wrap (IntKind.u64.wrap i.im*4294967296)=(i.im % 4294967296)*4294967296:=by rw [Qgx,Qgx];omega
 rw [ea,eb,ec,eo,em]
 rw [or_int (i.a*256) (i.b*4096) 12 i.b (by omega) (by omega) (by omega) (by omega) (by omega)]
 rw [or_int (i.a*256+i.b*4096) (i.c*65536) 16 i.c (by omega) (by omega) (by omega) (by omega) (by omega)]
 rw [or_int i.op (i.a*256+i.b*4096+i.c*65536) 8 (i.a+i.b*16+i.c*256) (by omega) (by omega) (by omega) (by omega) (by omega)]
 rw [or_int (i.op+(i.a*256+i.b*4096+i.c*65536)) (i.im % 4294967296*4294967296) 32 (i.im % 4294967296) (by omega) (by omega) (by omega) (by omega) (by omega)]
 unfold JI
 omega
theorem iencode_bad (i:Ins) (w:World) (h:YF i=false):Calls Tryz.prog 248 #[.agg (insc i)] w fun e w'=>e=.returned (.tuple #[.int .u64 0,.int .i64 11])∧Chg [] w w':=by
 have hx:(w.alloc (.cells (insc i) 68)).heap[w.heap.size]? =some (.cells (insc i) 68 (0,0)):=by simp
 have HC:=Vh ((Chg.refl [] w).alloc (.cells (insc i) 68))
 have HG:=Vh (fun w=>igood_any i w)
 rw [h] at HG
 clear h
 go_enter Tryz.func248,Tryz.ntmps248
 go_wp2_with (go_at_call 256;refine (HG.out _).mono ?_;rintro e w2 ⟨rfl,c2⟩)
 go_ret2
 exact ⟨rfl,HC.out.trans c2⟩
theorem iencode_ok (i:Ins) (w:World) (h:YF i=true):Calls Tryz.prog 248 #[.agg (insc i)] w fun e w'=>e=.returned (.tuple #[.int .u64 (JI i),.int .i64 0])∧Chg [] w w':=by
 have hx:(w.alloc (.cells (insc i) 68)).heap[w.heap.size]? =some (.cells (insc i) 68 (0,0)):=by simp
 have HC:=Vh ((Chg.refl [] w).alloc (.cells (insc i) 68))
 have HG:=Vh (fun w=>igood_any i w)
 rw [h] at HG
 have HP:=Vh h
 clear h
 go_enter Tryz.func248,Tryz.ntmps248
 go_wp2_with fail
 generalize hw1:w.alloc (.cells (insc i) 68)=w1 at hx HC ⊢
 generalize hz:w.heap.size=p at hx ⊢
 refine (HG.out w1).mono ?_
 rintro e w2 ⟨rfl,c2⟩
 have hx2:=c2.keep hx (by simp)
 have HC2:=Vh (HC.out.trans c2)
 clear c2 hx hw1 hz
 go_wp2_with fail
 go_ret2
 exact ⟨by rw [code_or HP.out];rfl,HC2.out⟩
theorem J1 {fn:Func} {p t:Tmp} (h:fn.results=#[.cell p 68,.tmp t]) (tmps:Array Value) (w:World) (b:Nat) (s:Ins) (fr:Nat×Nat)
 (hp:tmps.getD p undef=.pointer (some ⟨b,0,none⟩)) (hb:w.heap[b]? =some (.cells (insc s) 68 fr)) (x:Value) (hx:tmps.getD t undef=x):
 (results fn tmps).run Tryz.prog w=.ok (.tuple #[.agg (insc s),x]) w:=by
 subst hx
 have hp':tmps[p]?.getD undef=.pointer (some ⟨b,0,none⟩):=by simpa using hp
 have:=run_loadVar_row (P:=Tryz.prog) w b 68 68 (insc s) fr _ hb Tryz.underlying68 rfl (by rw [QG];kernel_rfl)
 simp [results,h,hp',asAddr,this]
theorem and_mod (u:Int) (h0:0≤u) (h64:u<18446744073709551616) (k:Nat) (hk:k<63) (m:Int) (hm:m=2 ^ k-1):bits .and .u64 u m=u % 2 ^ k:=by
 obtain ⟨U,rfl⟩:=Int.eq_ofNat_of_zero_le h0
 have h1:1≤2 ^ k:=Nat.one_le_two_pow
 have h2:2 ^ k<2 ^ 63:=Nat.pow_lt_pow_right (by omega) hk
 have e:m=((2 ^ k-1:Nat):Int):=by rw [hm];push_cast [h1];rfl
 rw [e,bits_and_u64_nat _ _ (by omega) (by omega),Nat.and_two_pow_sub_one_eq_mod]
 push_cast
 rfl
theorem ins_walk (u:Int) (h0:0≤u) (h64:u<18446744073709551616):(⟨wrap64 (bits BinOp.and IntKind.u64 u 255),wrap64 (bits BinOp.and IntKind.u64 (u / 256) 15),wrap64 (bits BinOp.and IntKind.u64 (u / 4096) 15),wrap64 (bits BinOp.and IntKind.u64 (u / 65536) 15),wrap64 (wrap32 (u / 4294967296))⟩:Ins)=Qz u:=by
 have w64:∀x,wrap64 x=(x+9223372036854775808) % 18446744073709551616-9223372036854775808:=fun x=>by simp [wrap64]
 have w32:∀x,wrap32 x=(x+2147483648) % 4294967296-2147483648:=fun x=>by simp [wrap32]
 rw [and_mod u h0 h64 8 (by omega) 255 (by decide),and_mod (u / 256) (by omega) (by omega) 4 (by omega) 15 (by decide),and_mod (u / 4096) (by omega) (by omega) 4 (by omega) 15 (by decide),and_mod (u / 65536) (by omega) (by omega) 4 (by omega) 15 (by decide)]
 unfold Qz imOf
 simp only [w64,w32,Ins.mk.injEq]
 refine ⟨by omega,by omega,by omega,by omega,?_⟩
 split<;>omega
theorem idecode (u:Int) (h0:0≤u) (h64:u<18446744073709551616) (w:World):Calls Tryz.prog 232 #[.int .u64 u] w fun e w'=>e=.returned (.tuple #[.agg (insc (decI u)),.int .i64 (if decB u then 0 else 11)])∧Chg [] w w':=by
 have hI:=ins_walk u h0 h64
 have HZ:(putRow ((w.alloc (.cells (insc insZ) 68)).alloc (.cells (insc insZ) 68)) (w.heap.size+1) 0 (insc (Qz u))).heap[w.heap.size]? =some (.cells (insc insZ) 68 (0,0)):=by
  rw [Qc _ _ _ _ _ (by simp [ZO,Fit,QG]),if_neg (by omega)]
  simp
 have HY:(putRow ((w.alloc (.cells (insc insZ) 68)).alloc (.cells (insc insZ) 68)) (w.heap.size+1) 0 (insc (Qz u))).heap[w.heap.size+1]? =some (.cells (insc (Qz u)) 68 (0,0)):=by
  rw [Qc _ _ _ _ _ (by simp [ZO,Fit,QG]),if_pos rfl]
  simp
 have HC:=Vh ((((Chg.refl [] w).alloc (.cells (insc insZ) 68)).alloc (.cells (insc insZ) 68)).putRow (w.heap.size+1) 0 (insc (Qz u)) (.inr (by omega)))
 have HN:=Vh (show w.heap.size≤w.heap.size by omega)
 have HI:=Vh hI
 clear hI
 cases hg:YF (Qz u)
 ·have hd:decB u=false:=by unfold decB;rw [hg];rfl
  rw [show decI u=insZ by unfold decI;rw [hd];rfl,hd]
  go_enter Tryz.func232,Tryz.ntmps232
  try dsimp only [List.append]
  go_wp2_with fail
  simp only [HI.out]
  generalize putRow ((w.alloc (.cells (insc insZ) 68)).alloc (.cells (insc insZ) 68)) (w.heap.size+1) 0 (insc (Qz u))=w1 at HZ HY HC ⊢
  refine (iencode_bad (Qz u) w1 hg).mono ?_
  rintro e w2 ⟨rfl,c2⟩
  have hz:=c2.keep HZ (by simp)
  have hy:=c2.keep HY (by simp)
  have HC2:=Vh (HC.out.trans c2)
  clear HZ HY c2
  go_wp2_with fail
  refine bodyPost_ret (v:=.tuple #[.agg (insc insZ),.int .i64 11]) (J1 (by rfl) _ _ w.heap.size insZ (0,0) (by rfl) (by simp [*];try rfl) _ (by rfl)) (by rfl) ⟨rfl,HC2.out.putRow _ _ _ (.inr HN.out)⟩
 cases hc:JI (Qz u)==u
 ·have hd:decB u=false:=by unfold decB;rw [hg,hc];rfl
  rw [show decI u=insZ by unfold decI;rw [hd];rfl,hd]
  have hne:(JI (Qz u) !=u)=true:=by simp [bne,hc]
  clear hc
  go_enter Tryz.func232,Tryz.ntmps232
  try dsimp only [List.append]
  go_wp2_with fail
  simp only [HI.out]
  generalize putRow ((w.alloc (.cells (insc insZ) 68)).alloc (.cells (insc insZ) 68)) (w.heap.size+1) 0 (insc (Qz u))=w1 at HZ HY HC ⊢
  refine (iencode_ok (Qz u) w1 hg).mono ?_
  rintro e w2 ⟨rfl,c2⟩
  have hz:=c2.keep HZ (by simp)
  have hy:=c2.keep HY (by simp)
  have HC2:=Vh (HC.out.trans c2)
  clear HZ HY c2
  go_wp2_with fail
  refine bodyPost_ret (v:=.tuple #[.agg (insc insZ),.int .i64 11]) (J1 (by rfl) _ _ w.heap.size insZ (0,0) (by rfl) (by simp [*];try rfl) _ (by rfl)) (by rfl) ⟨rfl,HC2.out.putRow _ _ _ (.inr HN.out)⟩
 ·have hd:decB u=true:=by unfold decB;rw [hg,hc];rfl
  rw [show decI u=Qz u by unfold decI;rw [hd];rfl,hd]
  have hne:(JI (Qz u) !=u)=false:=by simp [bne,hc]
  clear hc
  go_enter Tryz.func232,Tryz.ntmps232
  try dsimp only [List.append]
  go_wp2_with fail
  simp only [HI.out]
  generalize putRow ((w.alloc (.cells (insc insZ) 68)).alloc (.cells (insc insZ) 68)) (w.heap.size+1) 0 (insc (Qz u))=w1 at HZ HY HC ⊢
  refine (iencode_ok (Qz u) w1 hg).mono ?_
  rintro e w2 ⟨rfl,c2⟩
  have hz:=c2.keep HZ (by simp)
  have hy:=c2.keep HY (by simp)
  have HC2:=Vh (HC.out.trans c2)
  clear HZ HY c2
  go_wp2_with fail
  refine bodyPost_ret (v:=.tuple #[.agg (insc (Qz u)),.int .i64 0]) (J1 (by rfl) _ _ w.heap.size (Qz u) (0,0) (by rfl) (by rw [Qc _ _ _ _ _ (by rw [hz];simp [ZO,Fit,QG]),if_pos rfl,hz];exact Qg _ _ _ _ (by rw [QG,QG])) _ (by rfl)) (by rfl) ⟨rfl,HC2.out.putRow _ _ _ (.inr HN.out)⟩
end
end Go.Proofs.YtcgjofbkcgedfaaGreatDoor
