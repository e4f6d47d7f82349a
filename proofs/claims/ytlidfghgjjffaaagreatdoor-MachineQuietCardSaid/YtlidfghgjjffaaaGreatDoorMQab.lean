/- Texts of the walk, one behind the other: Kit Mem Laid Open Args Seq. No condition. -/
import Derived.Test.YtlidfghgjjffaaaGreatDoorMQaa
import Derived.Below
import Derived.BigQuiet
import Derived.ChangeArms
import Derived.ChangeKeysEq
import Derived.Deep.MidRow
import Derived.Handed
import Derived.LaidHandle
import Derived.LaidMore
import Derived.Lib.Hide
import Derived.OpenShut
import Derived.ProofKit
import Derived.Stop.Joined
import Derived.WalkKit
import Derived.WideShapes
namespace Go.Proofs.YtlidfghgjjffaaaGreatDoor
open Go.ChangeShapes Go.WideShapes Go.ChangeAt Go.RowKit
section
section
variable {H:Type} {enc:TypeId×Value→H} {P:Program}
theorem Qgv (hl:laidOutB P=true) {W W':World} (hb:Below W.heap.size W W'):∀{ts:List TypeId} {vs:List Value} {ds:List (DataW H)} {ps:List MemPlace},
 (∀t∈ts,P.readableRec t=true∧t<P.types.size)→DataW.TrodAll enc P W 0 (fun _=>true) true ts vs ds ps→(∀x∈ps,x.block<W.heap.size)→
 DataW.TrodAll enc P W' 0 (fun b=>decide (b<W.heap.size)) true ts vs ds ps
 |[],_,_,_,_,h,_=>by
  obtain ⟨rfl,rfl,rfl⟩:=trodAll_nil h
  exact rfl
 |t::ts,_,_,_,hts,h,hlt=>by
  obtain ⟨v,vs1,d,ds1,a,b,rfl,rfl,rfl,h1,h2⟩:=trodAll_cons h
  have ht:=hts t (List.mem_cons_self ..)
  exact ⟨a,b,Below.trod hl ht.1 ht.2 h1 hb (fun x hx=>hlt x (List.mem_append_left _ hx)),
   Qgv hl hb (fun t' h'=>hts t' (List.mem_cons_of_mem _ h')) h2 (fun x hx=>hlt x (List.mem_append_right _ hx)),rfl⟩
theorem Qdj {w:World} {base:Nat} {sp:Nat→Bool} {hd:Bool}:∀{ts:List TypeId} {vs:List Value} {ds:List (DataW H)} {ps:List MemPlace},DataW.TrodAll enc P w base sp hd ts vs ds ps→ds.length=ts.length
 |[],_,_,_,h=>by obtain ⟨rfl,rfl,rfl⟩:=trodAll_nil h;rfl
 |t::ts,_,_,_,h=>by
  obtain ⟨v,vs1,d,ds1,a,b,rfl,rfl,rfl,h1,h2⟩:=trodAll_cons h
  simp [Qdj h2]
end
def Aft (N:Nat) (W:World):Type:={w:World // Below N W w}
def Aft.w {N:Nat} {W:World} (x:Aft N W):World:=x.val
theorem Aft.below {N:Nat} {W:World} (x:Aft N W):Below N W x.w:=x.property
instance {N:Nat} {W:World}:Nonempty (Aft N W):=⟨⟨W,Below.refl _ _⟩⟩
theorem Aft.size {N:Nat} {W:World} (x:Aft N W):W.heap.size≤x.w.heap.size:=x.below.size
theorem Aft.block {N:Nat} {W:World} (x:Aft N W) {k:Nat} (h:k<N):x.w.heap[k]? =W.heap[k]?:=x.below.block k h
theorem calls_aft {P:Program} {f:FuncId} {args:Array Value} {N:Nat} {W:World} {x:Aft N W} {v:Value} (hN:N≤W.heap.size)
 (h:Calls P f args x.w fun e w'=>e=.returned v∧Below x.w.heap.size x.w w'):Calls P f args x.w fun e w''=>e=.returned v∧∃y:Aft N W,w''=y.w:=
 h.mono fun _ _ ⟨he,hb⟩=>⟨he,⟨⟨_,x.below.trans (hb.mono (Nat.le_trans hN x.size))⟩,rfl⟩⟩
theorem Y3 {P:Program} {f:FuncId} {args:Array Value} {N:Nat} {W:World} {x:Aft N W} {v:Value}
 (h:Calls P f args x.w fun e w'=>e=.returned v∧x.w=w'):Calls P f args x.w fun e w''=>e=.returned v∧∃y:Aft N W,w''=y.w:=
 h.mono fun _ _ ⟨he,hb⟩=>⟨he,x,hb.symm⟩
theorem X8 {P:Program} {id:Nat} {Q:Exit→Act→World→Prop} {a:Act} {w:World} {l:List Oper} (N:Nat) (hm:P.follows .mixedOrders=true) (hB:Region.lexB .any l.toArray=true)
 (h:wpQuiet P l.toArray (fun w'=>∃x:Aft N w,w'=x.w) (fun a'=>∀w',(∃x:Aft N w,w'=x.w)→Q .normal a' w') l a):(Code.region id l.toArray true).wp P Q a w:=
 wp_region_quiet (C:=fun w'=>∃x:Aft N w,w'=x.w) hm hB ⟨⟨_,(Below.refl _ _).drew⟩,rfl⟩ (by simpa using h)
theorem Qdy {P:Program} (w:World) (d:Nat) {e:TypeId} {k:IntKind} (he:P.underlying e=some (.int k)) (hc:P.cellsOf e=1) (ns ms:List Int):∀(is:List Nat),(∀i∈is,i<ns.length∧i<ms.length)→
 (Op.eqItems (d+1) e 1 (ns.map (Value.int k)).toArray (ms.map (Value.int k)).toArray is).run P w=.ok (is.all fun i=>ns.getD i 0==ms.getD i 0) w
 |[],_=>by simp [Op.eqItems]
 |i::is,h=>by
  obtain ⟨h1,h2⟩:=h i (by simp)
  have p1:(part e (ns.map (Value.int k)).toArray i).run P w=.ok (.int k (ns.getD i 0)) w:=run_part_plain w (by simp [Program.plainKey,he]) (by simp [h1])
  have p2:(part e (ms.map (Value.int k)).toArray i).run P w=.ok (.int k (ms.getD i 0)) w:=run_part_plain w (by simp [Program.plainKey,he]) (by simp [h2])
  have ih:=Qdy w d he hc ns ms is (fun j hj=>h j (by simp [hj]))
  simp only [Op.eqItems,Nat.mul_one,Sem.run_bind,p1,p2,Result.andThen_ok,run_equalIn_int w d e k k _ _ he]
  cases hb:(ns.getD i 0==ms.getD i 0)
  ·simp at hb;simp [hb]
  ·simp at hb;simp [hb,ih]
theorem eq_ints_array {P:Program} (w:World) {t e:TypeId} {n:Nat} {i:TypeInfo} {k:IntKind} (hu:P.underlying t=some (.array n e)) (hi:P.info? e=some i) (he:P.underlying e=some (.int k)) (hc:P.cellsOf e=1) (ns ms:List Int)
 (hn:ns.length=n) (hm:ms.length=n):(Op.equalIn 10000 t (.agg (ns.map (Value.int k)).toArray) (.agg (ms.map (Value.int k)).toArray)).run P w=.ok (ns==ms) w:=by
 rw [run_equalIn_array w 9999 _ _ hu hi,hc,Qdy w 9998 he hc ns ms _ (by intro i hi;simp at hi;omega)]
 congr 1
 rw [Bool.eq_iff_iff]
 simp only [List.all_eq_true,List.mem_range,beq_iff_eq]
 constructor
 ·intro h
  apply List.ext_getElem (by omega)
  intro j h1 h2
  have:=h j (by omega)
  simpa [h1,h2] using this
 ·rintro rfl j _;rfl
end
end Go.Proofs.YtlidfghgjjffaaaGreatDoor
namespace Go.Proofs.YtlidfghgjjffaaaGreatDoor
set_option linter.unusedVariables false
section
open Go.RowKit
def Qc1:Option Obj→Nat→Option Value
 |some (.cells c _ _),o=>c[o]?
 |_,_=>none
theorem Qb (c:Array Value) (t:TypeId) (f:Nat×Nat) (o:Nat):Qc1 (some (.cells c t f)) o=c[o]?:=rfl
theorem QG (w:World) (b o:Nat):w.cell? ⟨b,o,none⟩=Qc1 (w.heap[b]?) o:=by
 unfold World.cell? Qc1
 cases h:w.heap[b]? with
 |none=>simp
 |some x=>cases x<;>simp
def Qfg:Option Obj→Nat→Bool
 |some (.cells _ _ (lo,hi)),o=>lo≤o&&o<hi
 |_,_=>false
theorem Qa (c:Array Value) (t:TypeId) (o:Nat):Qfg (some (.cells c t (0,0))) o=false:=by simp [Qfg]
theorem Qs (w:World) (b o:Nat):w.frozen? ⟨b,o,none⟩=Qfg (w.heap[b]?) o:=by
 unfold World.frozen? Qfg
 cases h:w.heap[b]? with
 |none=>simp
 |some x=>cases x<;>simp
def Fit (o n size:Nat):Prop:=o+n≤size
instance (o n size:Nat):Decidable (Fit o n size):=inferInstanceAs (Decidable (o+n≤size))
theorem Fit.out {o n size:Nat} (h:Fit o n size):o+n≤size:=h
theorem Fit.all (n:Nat):Fit 0 n n:=by unfold Fit;omega
def Qbo:Option Obj→Nat→Nat→Bool
 |some (.cells c _ _),o,n=>decide (Fit o n c.size)
 |_,_,_=>false
theorem Qi (c:Array Value) (t:TypeId) (f:Nat×Nat) (o n:Nat):Qbo (some (.cells c t f)) o n=decide (Fit o n c.size):=rfl
def ZX:Option Obj→Nat→Nat→Bool
 |some (.cells c _ f),o,n=>decide (Fit o n c.size)&&f==(0,0)
 |_,_,_=>false
theorem Qe (c:Array Value) (t:TypeId) (o n:Nat):ZX (some (.cells c t (0,0))) o n=decide (Fit o n c.size):=by simp [ZX]
def XF:Option Obj→Nat→Nat→Array Value
 |some (.cells c _ _),o,n=>(c.toList.drop o |>.take n).toArray
 |_,_,_=>#[]
theorem Xi (c:Array Value) (t:TypeId) (f:Nat×Nat) (o n:Nat):XF (some (.cells c t f)) o n=(c.toList.drop o |>.take n).toArray:=rfl
theorem Qd (c:Array Value) (t:TypeId) (f:Nat×Nat) (n:Nat) (h:c.size=n):XF (some (.cells c t f)) 0 n=c:=by
 subst h
 rw [Xi,List.drop_zero,List.take_of_length_le (by simp),Array.toArray_toList]
def Zz {α:Type} (xs:List α) (o:Nat) (vs:List α):List α:=xs.take o++vs++xs.drop (o+vs.length)
theorem Qal {α:Type} (xs:List α) (o:Nat) (vs:List α) (h:o+vs.length≤xs.length):(Zz xs o vs).length=xs.length:=by simp [Zz];omega
theorem splice_all {α:Type} (xs vs:List α) (h:vs.length=xs.length):Zz xs 0 vs=vs:=by simp [Zz,h]
theorem splice_map {α β:Type} (f:α→β) (xs:List α) (o:Nat) (vs:List α):Zz (xs.map f) o (vs.map f)=(Zz xs o vs).map f:=by simp [Zz,List.map_take,List.map_drop]
theorem Qhz {α:Type} (xs:List α) (o:Nat) (v:α) (vs:List α) (h:o<xs.length):Zz (xs.set o v) (o+1) vs=Zz xs o (v::vs):=by
 have e:xs.set o v=xs.take o++v::xs.drop (o+1):=List.set_eq_take_append_cons_drop.trans (if_pos h)
 have h2:(xs.take o++v::xs.drop (o+1)).drop (o+1+vs.length)=xs.drop (o+1+vs.length):=by
  have e1:(List.take o xs).length=o:=by simp;omega
  have e2:(xs.take o++v::xs.drop (o+1))=(xs.take o++[v])++xs.drop (o+1):=by simp
  rw [e2,List.drop_append]
  have e3:(List.take o xs++[v]).length=o+1:=by simp;omega
  have e4:(List.take o xs++[v]).drop (o+1+vs.length)=[]:=List.drop_eq_nil_of_le (by rw [e3];omega)
  rw [e3,e4,List.drop_drop,List.nil_append]
  congr 1
  omega
 have h3:(xs.set o v).take (o+1)=xs.take o++[v]:=by
  rw [List.take_succ_eq_append_getElem (by simpa using h)]
  simp [List.take_set_of_le (Nat.le_refl o)]
 unfold Zz
 rw [h3,e,h2]
 simp [Nat.add_assoc,Nat.add_comm 1]
def J6:Option Obj→Nat→Array Value→Option Obj
 |some (.cells c t f),o,vs=>some (.cells (Zz c.toList o vs.toList).toArray t f)
 |x,_,_=>x
theorem XD (c:Array Value) (t:TypeId) (f:Nat×Nat) (o:Nat) (vs:Array Value):J6 (some (.cells c t f)) o vs=some (.cells (Zz c.toList o vs.toList).toArray t f):=rfl
theorem Qg (c:Array Value) (t:TypeId) (f:Nat×Nat) (vs:Array Value) (h:vs.size=c.size):J6 (some (.cells c t f)) 0 vs=some (.cells vs t f):=by
 rw [XD,splice_all _ _ (by simpa using h)]
def Qh7:Option Obj→Nat→Value→Option Obj
 |some (.cells c t f),o,v=>some (.cells (c.setIfInBounds o v) t f)
 |x,_,_=>x
theorem Qf (c:Array Value) (t:TypeId) (f:Nat×Nat) (o:Nat) (v:Value):Qh7 (some (.cells c t f)) o v=some (.cells (c.setIfInBounds o v) t f):=rfl
theorem Qk (w:World) (b:Nat):w.drew.heap[b]? =w.heap[b]?:=rfl
theorem Qh (w:World) (n b:Nat):(w.drewN n).heap[b]? =w.heap[b]?:=rfl
theorem heap_alloc (w:World) (o:Obj) (b:Nat):(w.alloc o).heap[b]? =(w.heap[b]?).or (if b=w.heap.size then some o else none):=by
 rcases Nat.lt_trichotomy b w.heap.size with h|h|h
 ·rw [Below.heap_alloc w o b h,Array.getElem?_eq_getElem h];rfl
 ·subst h;rw [(MapKept.heap_alloc w o).1];simp
 ·have h1:(w.alloc o).heap[b]? =none:=Array.getElem?_eq_none (by simp;omega)
  have h2:w.heap[b]? =none:=Array.getElem?_eq_none (by omega)
  rw [h1,h2];simp;omega
theorem Ql (w:World) (n:Nat):w.heap[w.heap.size+n]? =none:=Array.getElem?_eq_none (by omega)
theorem heap_setCell (w:World) (b o:Nat) (v:Value) (k:Nat):(w.setCell ⟨b,o,none⟩ v).heap[k]? =if k=b then Qh7 (w.heap[b]?) o v else w.heap[k]?:=by
 unfold World.setCell
 simp only [Array.getElem?_modify]
 by_cases h:b=k
 ·subst h
  simp only [if_true]
  cases e:w.heap[b]? with
  |none=>rfl
  |some x=>cases x<;>simp [Qh7]
 ·rw [if_neg h,if_neg (fun e=>h e.symm)]
theorem size_setCells (b:Nat):∀(vs:List Value) (o:Nat) (w:World),(w.setCells b o vs).heap.size=w.heap.size
 |[],_,_=>rfl
 |v::vs,o,w=>by rw [World.setCells,size_setCells b vs];simp
theorem JM (b k:Nat):∀(vs:List Value) (o:Nat) (w:World),ZX (w.heap[b]?) o vs.length=true→(w.setCells b o vs).heap[k]? =if k=b then J6 (w.heap[b]?) o vs.toArray else w.heap[k]?
 |[],o,w,h=>by
  simp only [World.setCells]
  split
  ·rename_i e;subst e
   cases e:w.heap[k]? with
   |none=>rfl
   |some x=>cases x<;>simp [J6,Zz]
  ·rfl
 |v::vs,o,w,h=>by
  have h1:ZX ((w.setCell ⟨b,o,none⟩ v).heap[b]?) (o+1) vs.length=true:=by
   rw [heap_setCell,if_pos rfl]
   cases e:w.heap[b]? with
   |none=>rw [e] at h;exact h
   |some x=>
    rw [e] at h
    cases x with
    |cells c t f=>
     simp only [ZX,Qh7,Bool.and_eq_true,decide_eq_true_eq,List.length_cons,Array.size_setIfInBounds] at h ⊢
     exact ⟨by have:=h.1.out;unfold Fit;omega,h.2⟩
    |_=>simp [ZX] at h
  rw [World.setCells,JM b k vs (o+1) _ h1,heap_setCell,heap_setCell,if_pos rfl]
  split
  ·cases e:w.heap[b]? with
   |none=>rfl
   |some x=>
    rw [e] at h
    cases x with
    |cells c t f=>
     simp only [ZX,Bool.and_eq_true,decide_eq_true_eq,List.length_cons] at h
     have:=h.1.out
     simp only [Qh7,J6,Array.toList_setIfInBounds]
     rw [Qhz _ _ _ _ (by simp;omega)]
    |_=>simp [ZX] at h
  ·rfl
theorem QD {a b c:Nat} (h:a+b≤c):Fit a b c=True:=by simp [Fit,h]
theorem Qr (n:Nat):Fit 0 n n=True:=by simp [Fit.all]
def Qab (cs:Array Value):Prop:=cs.all (·.oneCell')=true
theorem Qp (l:List Value) (h:l.all (·.oneCell')=true):Qab l.toArray:=by
 unfold Qab;rw [List.all_toArray];exact h
theorem QX (k:IntKind) (n:Int):(Value.int k n).oneCell'=true:=rfl
theorem QI (b:Bool):(Value.bool b).oneCell'=true:=rfl
theorem Qq (p:Option Addr):(Value.pointer p).oneCell'=true:=rfl
theorem QC (p:Option Addr) (l c:Nat):(Value.slice p l c).oneCell'=true:=rfl
def putRow (w:World) (b o:Nat) (cs:Array Value):World:=w.setCells b o cs.toList
theorem Qc (w:World) (b o:Nat) (cs:Array Value) (k:Nat) (h:ZX (w.heap[b]?) o cs.size=true):(putRow w b o cs).heap[k]? =if k=b then J6 (w.heap[b]?) o cs else w.heap[k]?:=by
 unfold putRow;rw [JM b k cs.toList o w (by simpa using h),Array.toArray_toList]
theorem World.ext_heap {a b:World} (h:a.heap=b.heap) (ht:a.tape=b.tape) (hd:a.drawn=b.drawn) (ho:a.os=b.os) (hu:a.output=b.output):a=b:=by
 cases a;cases b;simp_all
theorem Qfe (b:Nat):∀(vs:List Value) (o:Nat) (w:World),(w.setCells b o vs).tape=w.tape∧(w.setCells b o vs).drawn=w.drawn∧(w.setCells b o vs).os=w.os∧(w.setCells b o vs).output=w.output
 |[],_,_=>⟨rfl,rfl,rfl,rfl⟩
 |v::vs,o,w=>by
  obtain ⟨h1,h2,h3,h4⟩:=Qfe b vs (o+1) (w.setCell ⟨b,o,none⟩ v)
  exact ⟨h1,h2,h3,h4⟩
theorem Qj (w:World) (c cs:Array Value) (t:TypeId) (h:cs.size=c.size):putRow (w.alloc (.cells c t)) w.heap.size 0 cs=w.alloc (.cells cs t):=by
 obtain ⟨h1,h2,h3,h4⟩:=Qfe w.heap.size cs.toList 0 (w.alloc (.cells c t))
 refine World.ext_heap (Array.ext_getElem? fun k=>?_) h1 h2 h3 h4
 rw [Qc _ _ _ _ _ (by rw [heap_alloc];simp [ZX,h,Fit]),heap_alloc,heap_alloc,heap_alloc]
 by_cases hk:k=w.heap.size
 ·subst hk;simp [Qg,h]
 ·simp [hk]
def Wide (P:Program) (ty:TypeId) (n:Nat):Prop:=(∃d,P.underlying ty=some d∧d.isRow=true)∧(P.info? ty).map (·.size)=some n
def loadElse (P:Program) (ty:TypeId) (b o:Nat) (w:World):Result Value:=(Instr.loadAt ty (.pointer (some ⟨b,o,none⟩))).run P w
def storeElse (P:Program) (ty:TypeId) (b o:Nat) (cs:Array Value) (w:World):Result Unit:=(Instr.storeAt ty (.pointer (some ⟨b,o,none⟩)) (.agg cs)).run P w
theorem load_wide {P:Program} {ty:TypeId} {n:Nat} (hW:Wide P ty n) (w:World) (b o:Nat):(Instr.loadAt ty (.pointer (some ⟨b,o,none⟩))).run P w=
 if Qbo (w.heap[b]?) o n=true then .ok (.agg (XF (w.heap[b]?) o n)) w else loadElse P ty b o w:=by
 split
 ·rename_i h
  obtain ⟨⟨d,hu,hd⟩,hi⟩:=hW
  cases e:w.heap[b]? with
  |none=>rw [e] at h;cases h
  |some x=>
   rw [e] at h
   cases x with
   |cells c t f=>
    have hf:o+n≤c.size:=by simp [Qbo] at h;exact h.out
    refine run_loadAt_mid w b o ty ((c.toList.drop o).take n) d ?_ hu hd (by rw [hi];simp;omega)
    have:=World.rangeAt_of_block e o n
    have e2:(c.extract o (o+n)).toList=(c.toList.drop o).take n:=by simp
    rwa [e2] at this
   |_=>simp [Qbo] at h
 ·rfl
open Classical in
theorem store_wide {P:Program} {ty:TypeId} {n:Nat} (hi:(P.info? ty).map (·.size)=some n) (w:World) (b o:Nat) (cs:Array Value):(Instr.storeAt ty (.pointer (some ⟨b,o,none⟩)) (.agg cs)).run P w=
 if ZX (w.heap[b]?) o n=true∧cs.size=n∧Qab cs then .ok () (putRow w b o cs) else storeElse P ty b o cs w:=by
 split
 ·rename_i h
  obtain ⟨h,hs,h1⟩:=h
  refine run_storeAt_mid w b o ty cs ?_ (by rw [hi,hs]) h1
  intro j hj
  rw [QG,Qs]
  cases e:w.heap[b]? with
  |none=>rw [e] at h;cases h
  |some x=>
   rw [e] at h
   cases x with
   |cells c t f=>
    simp [ZX] at h
    obtain ⟨h,rfl⟩:=h
    have:=h.out
    rw [Qa,Qb]
    simp;omega
   |_=>simp [ZX] at h
 ·rfl
def loadW (P:Program) (ty:TypeId) (n:Nat) (x:Value) (w:World):Result Value:=(Instr.loadAt ty x).run P w
def storeW (P:Program) (ty:TypeId) (n:Nat) (x y:Value) (w:World):Result Unit:=(Instr.storeAt ty x y).run P w
def Qdf (ty:TypeId) (n:Nat) (x:Value):Sem Value:=Instr.loadAt ty x
def Qar (ty:TypeId) (n:Nat) (x y:Value):Sem Unit:=Instr.storeAt ty x y
theorem QB (P:Program) (ty:TypeId) (n:Nat) (x:Value) (w:World):(Qdf ty n x).run P w=loadW P ty n x w:=rfl
theorem Qw (P:Program) (ty:TypeId) (n:Nat) (x y:Value) (w:World):(Qar ty n x y).run P w=storeW P ty n x y w:=rfl
theorem QJ {P:Program} {ty:TypeId} {n:Nat} (hW:Wide P ty n) (w:World) (b o:Nat):loadW P ty n (.pointer (some ⟨b,o,none⟩)) w=
 if Qbo (w.heap[b]?) o n=true then .ok (.agg (XF (w.heap[b]?) o n)) w else loadElse P ty b o w:=load_wide hW w b o
open Classical in
theorem QA {P:Program} {ty:TypeId} {n:Nat} (hW:Wide P ty n) (w:World) (b o:Nat) (cs:Array Value):storeW P ty n (.pointer (some ⟨b,o,none⟩)) (.agg cs) w=
 if ZX (w.heap[b]?) o n=true∧cs.size=n∧Qab cs then .ok () (putRow w b o cs) else storeElse P ty b o cs w:=store_wide hW.2 w b o cs
def vs (xs:List Int):Array Value:=(xs.map (Value.int .u64)).toArray
theorem Qt (xs:List Int):(vs xs).size=xs.length:=by simp [vs]
theorem Zk (xs:List Int):Qab (vs xs):=by simp [Qab,vs,Value.oneCell']
def bk (xs:List Int) (r:List Value):Array Value:=(xs.map (Value.int .u64)++r).toArray
theorem bk_vs (xs:List Int):vs xs=bk xs []:=by simp [vs,bk]
theorem Qgs (xs:List Int) (r:List Value):(bk xs r).size=xs.length+r.length:=by simp [bk]
def ln (xs:List Int) (i:Nat):List Int:=(xs.drop (i*8)).take 8
theorem Qig (xs:List Int) (i:Nat) (h:Fit (i*8) 8 xs.length):(ln xs i).length=8:=by have:=h.out;simp [ln];omega
def JV (xs:List Int) (i:Nat) (l:List Int):List Int:=Zz xs (i*8) l
theorem Jm (xs:List Int) (i:Nat) (l:List Int) (h:Fit (i*8) 8 xs.length) (hl:l.length=8):(JV xs i l).length=xs.length:=by
 have:=h.out;unfold JV;rw [Qal _ _ _ (by omega)]
theorem fit_more {o n a:Nat} (h:Fit o n a) (b:Nat):Fit o n (a+b):=by have:=h.out;unfold Fit;omega
theorem rowIn_bk {xs:List Int} {i:Nat} (h:Fit (i*8) 8 xs.length) (r:List Value) (t:TypeId) (f:Nat×Nat):Qbo (some (.cells (bk xs r) t f)) (i*8) 8=true:=by
 rw [Qi,Qgs];simp [fit_more h]
theorem rowHas_bk {xs:List Int} {i:Nat} (h:Fit (i*8) 8 xs.length) (r:List Value) (t:TypeId):ZX (some (.cells (bk xs r) t (0,0))) (i*8) 8=true:=by
 rw [Qe,Qgs];simp [fit_more h]
theorem rowPart_bk {xs:List Int} {i:Nat} (h:Fit (i*8) 8 xs.length) (r:List Value) (t:TypeId) (f:Nat×Nat):XF (some (.cells (bk xs r) t f)) (i*8) 8=vs (ln xs i):=by
 have:=h.out
 have e1:(xs.map (Value.int .u64)++r).drop (i*8)=(xs.drop (i*8)).map (Value.int .u64)++r:=by
  rw [List.drop_append_of_le_length (by simp;omega),List.map_drop]
 have e2:((xs.drop (i*8)).map (Value.int .u64)++r).take 8=((xs.drop (i*8)).take 8).map (Value.int .u64):=by
  rw [List.take_append_of_le_length (by simp;omega),List.map_take]
 rw [Xi]
 unfold bk vs ln
 rw [List.toList_toArray,e1,e2]
theorem Qae {α:Type} (xs r:List α) (o:Nat) (v:List α) (h:o+v.length≤xs.length):Zz (xs++r) o v=Zz xs o v++r:=by
 unfold Zz
 rw [List.take_append_of_le_length (by omega),List.drop_append_of_le_length (by omega)]
 simp
theorem Qh8 {xs l:List Int} {i:Nat} (h:Fit (i*8) l.length xs.length) (r:List Value) (t:TypeId) (f:Nat×Nat):J6 (some (.cells (bk xs r) t f)) (i*8) (vs l)=some (.cells (bk (JV xs i l) r) t f):=by
 have:=h.out
 rw [XD]
 unfold bk vs JV
 rw [List.toList_toArray,List.toList_toArray,Qae _ _ _ _ (by simpa using this),splice_map]
structure Chg (l:List Nat) (w w':World):Prop where
 os:w'.os=w.os
 tape:w'.tape=w.tape
 output:w'.output=w.output
 size:w.heap.size≤w'.heap.size
 block:∀k,k<w.heap.size→k∉l→w'.heap[k]? =w.heap[k]?
theorem Chg.refl (l:List Nat) (w:World):Chg l w w:=⟨rfl,rfl,rfl,Nat.le_refl _,fun _ _ _=>rfl⟩
theorem Chg.trans {l:List Nat} {a b c:World} (h:Chg l a b) (k:Chg l b c):Chg l a c:=
 ⟨k.os.trans h.os,k.tape.trans h.tape,k.output.trans h.output,Nat.le_trans h.size k.size,fun i hi hn=>(k.block i (Nat.lt_of_lt_of_le hi h.size) hn).trans (h.block i hi hn)⟩
theorem Chg.trans' {l l':List Nat} {a b c:World} (h:Chg l a b) (k:Chg l' b c) (hl:∀x∈l',x∈l∨a.heap.size≤x):Chg l a c:=
 ⟨k.os.trans h.os,k.tape.trans h.tape,k.output.trans h.output,Nat.le_trans h.size k.size,fun i hi hn=>(k.block i (Nat.lt_of_lt_of_le hi h.size) (fun hm=>by
  rcases hl i hm with h1|h1
  ·exact hn h1
  ·omega)).trans (h.block i hi hn)⟩
theorem Chg.mono {l l':List Nat} {a b:World} (h:Chg l a b) (hl:∀x∈l,x∈l'∨a.heap.size≤x):Chg l' a b:=(Chg.refl l' a).trans' h hl
theorem Chg.keep {l:List Nat} {w w':World} (h:Chg l w w') {k:Nat} {x:Obj} (hk:w.heap[k]? =some x) (hn:k∉l):w'.heap[k]? =some x:=by
 rw [h.block k (Array.getElem?_eq_some_iff.1 hk).1 hn,hk]
theorem Chg.drew {l:List Nat} {a w:World} (h:Chg l a w):Chg l a w.drew:=⟨h.os,h.tape,h.output,h.size,h.block⟩
theorem Chg.drewN {l:List Nat} {a w:World} (h:Chg l a w) (n:Nat):Chg l a (w.drewN n):=⟨h.os,h.tape,h.output,h.size,h.block⟩
theorem Chg.alloc {l:List Nat} {a w:World} (h:Chg l a w) (o:Obj):Chg l a (w.alloc o):=
 ⟨h.os,h.tape,h.output,by have:=h.size;simp;omega,fun k hk hn=>(Below.heap_alloc w o k (Nat.lt_of_lt_of_le hk h.size)).trans (h.block k hk hn)⟩
theorem Chg.setCell {l:List Nat} {a w:World} (h:Chg l a w) (b o:Nat) (v:Value) (hb:b∈l∨a.heap.size≤b):Chg l a (w.setCell ⟨b,o,none⟩ v):=
 ⟨h.os,h.tape,h.output,by simpa using h.size,fun k hk hn=>(Below.heap_setCell w ⟨b,o,none⟩ v k (by
  rintro rfl
  rcases hb with h1|h1
  ·exact hn h1
  ·omega)).trans (h.block k hk hn)⟩
theorem Chg.setCells {l:List Nat} {a:World} (b:Nat) (hb:b∈l∨a.heap.size≤b):∀(vs:List Value) (o:Nat) (w:World),Chg l a w→Chg l a (w.setCells b o vs)
 |[],_,_,h=>h
 |v::vs,o,w,h=>Chg.setCells b hb vs (o+1) _ (h.setCell b o v hb)
theorem Chg.putRow {l:List Nat} {a w:World} (h:Chg l a w) (b o:Nat) (cs:Array Value) (hb:b∈l∨a.heap.size≤b):Chg l a (putRow w b o cs):=Chg.setCells b hb _ _ _ h
theorem Z6 {w:World} {b:Nat} {x:Obj} (h:w.heap[b]? =some x):b<w.heap.size:=(Array.getElem?_eq_some_iff.1 h).1
def Old (w:World) (b:Nat):Prop:=b<w.heap.size
theorem old {w:World} {b:Nat} {x:Obj} (h:w.heap[b]? =some x):Old w b:=Z6 h
theorem Old.lt {w:World} {b:Nat} (h:Old w b):b<w.heap.size:=h
theorem Old.chg {w w':World} {b:Nat} {l:List Nat} (h:Old w b) (hc:Chg l w w'):Old w' b:=Nat.lt_of_lt_of_le h hc.size
theorem Qo {w:World} {k:Nat} (h:Old w k):(w.heap.size=k)=False:=by have:=h.lt;simp;omega
theorem Qn {w:World} {k:Nat} (h:Old w k):(k=w.heap.size)=False:=by have:=h.lt;simp;omega
theorem Below.chg {B:Nat} {w w':World} (h:Below B w w') (hB:w.heap.size≤B):Chg [] w w':=⟨h.os,h.tape,h.output,h.size,fun k hk _=>h.block k (by omega)⟩
theorem Chg.below {l:List Nat} {B:Nat} {w w':World} (h:Chg l w w') (hB:B≤w.heap.size) (hl:∀x∈l,B≤x):Below B w w':=
 ⟨h.os,h.tape,h.output,h.size,fun k hk=>h.block k (by omega) (fun hm=>by have:=hl k hm;omega)⟩
def appS (t ty:TypeId) (args:Array Value):Sem Value:=Builtin.append_ #[t,t] ty args
def appR (P:Program) (t ty:TypeId) (args:Array Value) (w:World):Result Value:=(Builtin.append_ #[t,t] ty args).run P w
theorem Qv (t ty:TypeId) (args:Array Value):Builtin.append_ #[t,t] ty args=appS t ty args:=rfl
theorem QN (P:Program) (t ty:TypeId) (args:Array Value) (w:World):(appS t ty args).run P w=appR P t ty args w:=rfl
def copS (t u ty:TypeId) (args:Array Value):Sem Value:=Builtin.copy_ #[t,u] ty args
def copR (P:Program) (t u ty:TypeId) (args:Array Value) (w:World):Result Value:=(Builtin.copy_ #[t,u] ty args).run P w
theorem QF (t u ty:TypeId) (args:Array Value):Builtin.copy_ #[t,u] ty args=copS t u ty args:=rfl
theorem QL (P:Program) (t u ty:TypeId) (args:Array Value) (w:World):(copS t u ty args).run P w=copR P t u ty args w:=rfl
def clrS (t ty:TypeId) (args:Array Value):Sem Value:=Builtin.clear_ #[t] ty args
def clrR (P:Program) (t ty:TypeId) (args:Array Value) (w:World):Result Value:=(Builtin.clear_ #[t] ty args).run P w
theorem Qx (t ty:TypeId) (args:Array Value):Builtin.clear_ #[t] ty args=clrS t ty args:=rfl
theorem QM (P:Program) (t ty:TypeId) (args:Array Value) (w:World):(clrS t ty args).run P w=clrR P t ty args w:=rfl
def mkS (t:TypeId) (l c:Value):Sem Value:=Instr.makeSlice t l c
def mkR (P:Program) (t:TypeId) (l c:Value) (w:World):Result Value:=(Instr.makeSlice t l c).run P w
theorem QP (t:TypeId) (l c:Value):Instr.makeSlice t l c=mkS t l c:=rfl
theorem Q6 (P:Program) (t:TypeId) (l c:Value) (w:World):(mkS t l c).run P w=mkR P t l c w:=rfl
def Sl (w:World) (size:Nat) (A:Option Addr) (n:Nat) (xs:List Value):Prop:=
 xs.length=n*size∧(n=0∨∃b o c t f,A=some ⟨b,o,none⟩∧w.heap[b]? =some (.cells c t f)∧(c.toList.drop o).take (n*size)=xs)
theorem Sl.chg {w w':World} {size:Nat} {A:Option Addr} {n:Nat} {xs:List Value} {l:List Nat} (h:Sl w size A n xs) (hc:Chg l w w') (hA:∀a,A=some a→a.block∉l):Sl w' size A n xs:=by
 obtain ⟨h1,h2⟩:=h
 refine ⟨h1,h2.imp id ?_⟩
 rintro ⟨b,o,c,t,f,rfl,hb,hx⟩
 exact ⟨b,o,c,t,f,rfl,hc.keep hb (hA _ rfl),hx⟩
theorem Sl.cells {w:World} {size:Nat} {b o:Nat} {n:Nat} {xs:List Value} (h:Sl w size (some ⟨b,o,none⟩) n xs):∀j v,xs[j]? =some v→w.cell? ((⟨b,o,none⟩:Addr).add j)=some v:=by
 intro j v hv
 obtain ⟨h1,h2⟩:=h
 rcases h2 with rfl|⟨b',o',c,t,f,he,hb,hx⟩
 ·simp at h1;subst h1;simp at hv
 ·injection he with he;injection he with h3 h4;subst h3;subst h4
  rw [Addr.add_mid,QG,hb,Qb]
  rw [←hx] at hv
  have hj:=(Vg hv).1
  simp at hj
  rw [List.getElem?_take_of_lt (by omega),List.getElem?_drop] at hv
  simpa using hv
theorem Sl.addr {w:World} {size:Nat} {A:Option Addr} {n:Nat} {xs:List Value} (h:Sl w size A n xs) (h0:0<n):∃b o,A=some ⟨b,o,none⟩:=by
 rcases h.2 with h2|⟨b,o,c,t,f,he,_⟩
 ·omega
 ·exact ⟨b,o,he⟩
theorem Sl.of_bk {w:World} {b:Nat} {ty:TypeId} {f:Nat×Nat} {xs:List Int} {r:List Value} {n:Nat} (hb:w.heap[b]? =some (.cells (bk xs r) ty f)) (hl:xs.length=n*8):Sl w 8 (some ⟨b,0,none⟩) n (xs.map (Value.int .u64)):=
 ⟨by simpa using hl,.inr ⟨b,0,_,ty,f,rfl,hb,by rw [List.drop_zero];unfold bk;rw [List.toList_toArray,List.take_append_of_le_length (by simp;omega),List.take_of_length_le (by simp;omega)]⟩⟩
section
variable {P:Program} {t ty e:TypeId} {i:TypeInfo} {z:Value}
theorem YK (w:World) (size n:Nat) (A:Option Addr) (m c:Nat) (xs:List Value) (h:Sl w size A n xs):(Builtin.firstCells size n (.slice A m c)).run P w=.ok xs.toArray w:=by
 rcases Nat.eq_zero_or_pos n with h0|h0
 ·subst h0
  have:xs=[]:=List.eq_nil_of_length_eq_zero (by simpa using h.1)
  subst this
  cases A with
  |none=>rfl
  |some a=>simp [Builtin.firstCells,loadCells,loadCellsFrom]
 ·obtain ⟨b,o,rfl⟩:=h.addr h0
  exact run_firstCells_some (P:=P) w size n ⟨b,o,none⟩ m c xs h.1 h.cells
theorem Qcl (ht:P.underlying t=some (.slice e)) (hi:P.info? e=some i) (hz:i.zero=some z) (w:World) (e0:Addr) (A:Option Addr) (n c:Nat) (xs:List Value) (h:Sl w i.size A n xs) (h0:0<n) (h63:n≤maxLen) (hb:n*i.bytes≤140737488355328):
 appR P t ty #[.slice (some e0) 0 0,.slice A n c] w=
  .ok (.slice (some ⟨w.heap.size,0,none⟩) n (grownCap w n 0 e)) (w.drew.alloc (.cells (xs++(Builtin.zeroCells z.cells (grownCap w n 0 e-n)).toList).toArray e)):=by
 obtain ⟨b,o,rfl⟩:=h.addr h0
 have:=run_append_grow (P:=P) w t ty e i z ht hi hz e0 0 0 [] (by simp) (by simp) ⟨b,o,none⟩ n c xs h.1 h.cells (by omega) (by simp only [maxLen] at h63;omega) (growslice_fits (by omega) (by rw [Nat.zero_add];omega))
 simp only [Nat.zero_add] at this
 unfold appR
 rw [this]
 congr 3
 simp
theorem Qea (ht:P.underlying t=some (.slice e)) (hi:P.info? e=some i) (w:World) (e0:Addr) (A:Option Addr) (c:Nat):appR P t ty #[.slice (some e0) 0 0,.slice A 0 c] w=.ok (.slice (some e0) 0 0) w:=by
 have:=YK (P:=P) w i.size 0 A 0 c [] ⟨by simp,.inl rfl⟩
 simp [appR,Builtin.append_,run_underlying ht,sizeOf,typeInfo,hi,Builtin.lenOf,this,storeCells]
theorem Qg3 (ht:P.underlying t=some (.slice e)) (hi:P.info? e=some i) (w:World) (b:Nat) (A:Option Addr) (n c d:Nat) (xs:List Value) (h:Sl w i.size A n xs) (h1:∀v∈xs,v.oneCell'=true) (hb:ZX (w.heap[b]?) 0 xs.length=true):
 copR P t t ty #[.slice (some ⟨b,0,none⟩) n d,.slice A n c] w=.ok (goInt n) (putRow w b 0 xs.toArray):=by
 have hf:=YK (P:=P) w i.size n A n c xs h
 have hst:=run_storeCells_cells (P:=P) b 0 xs 0 w ?_ ?_ h1
 ·simp only [Nat.add_zero] at hst
  simp [copR,Builtin.copy_,run_underlying ht,Builtin.lenOf,sizeOf,typeInfo,hi,hf,hst,putRow]
 all_goals
  intro j hj
  rw [Nat.add_zero,Nat.zero_add]
  cases e:w.heap[b]? with
  |none=>rw [e] at hb;cases hb
  |some x=>
   rw [e] at hb
   cases x with
   |cells c t f=>
    simp [ZX] at hb
    obtain ⟨hb,rfl⟩:=hb
    have:=hb.out
    first
     |(rw [QG,e,Qb];simp;omega)
     |(rw [Qs,e,Qa])
   |_=>simp [ZX] at hb
theorem run_clear_row (ht:P.underlying t=some (.slice e)) (hv:∀w,(zeroValue e).run P w=.ok z w) (h1:∀v∈z.cells,v.oneCell'=true) (w:World) (b n c:Nat) (h0:0<n) (hb:ZX (w.heap[b]?) 0 (n*z.cells.size)=true):
 clrR P t ty #[.slice (some ⟨b,0,none⟩) n c] w=.ok (.tuple #[]) (putRow w b 0 (Builtin.zeroCells z.cells n)):=by
 obtain ⟨m,rfl⟩:∃m,n=m+1:=⟨n-1,by omega⟩
 have hst:=run_storeCells_cells (P:=P) b 0 (Builtin.zeroCells z.cells (m+1)).toList 0 w ?_ ?_ ?_
 ·simp only [Nat.add_zero] at hst
  simp [clrR,Builtin.clear_,run_underlying ht,hv,hst,putRow]
 ·intro j hj
  rw [Nat.add_zero,Nat.zero_add]
  have hj':j<(m+1)*z.cells.size:=by simpa [size_zeroCells] using hj
  cases e:w.heap[b]? with
  |none=>rw [e] at hb;cases hb
  |some x=>
   rw [e] at hb
   cases x with
   |cells c t f=>
    simp [ZX] at hb
    have:=hb.1.out
    rw [QG,e,Qb];simp;omega
   |_=>simp [ZX] at hb
 ·intro j hj
  rw [Nat.add_zero,Nat.zero_add]
  cases e:w.heap[b]? with
  |none=>rw [e] at hb;cases hb
  |some x=>
   rw [e] at hb
   cases x with
   |cells c t f=>
    simp [ZX] at hb
    obtain ⟨hb,rfl⟩:=hb
    rw [Qs,e,Qa]
   |_=>simp [ZX] at hb
 ·intro v hv'
  simp only [Builtin.zeroCells,Array.toList_map,List.mem_map] at hv'
  obtain ⟨k,hk,rfl⟩:=hv'
  have hk':k<(m+1)*z.cells.size:=by simpa using hk
  have hz0:0<z.cells.size:=by
   rcases Nat.eq_zero_or_pos z.cells.size with h|h
   ·rw [h] at hk';omega
   ·exact h
  have hlt:=Nat.mod_lt k hz0
  rw [getElem!_pos z.cells (k % z.cells.size) hlt]
  exact h1 _ (Array.getElem_mem hlt)
end
theorem zeros_made (n:Nat):Builtin.zeroCells (vs [0,0,0,0,0,0,0,0]) n=vs (List.replicate (n*8) 0):=by
 apply Array.ext
 ·simp [Builtin.zeroCells,vs]
 ·intro k h1 h2
  have hk:k<n*8:=by simpa [vs] using h2
  have h8:k % 8=0∨k % 8=1∨k % 8=2∨k % 8=3∨k % 8=4∨k % 8=5∨k % 8=6∨k % 8=7:=by omega
  have hr:(vs (List.replicate (n*8) 0))[k]=.int .u64 0:=by simp [vs]
  rw [hr]
  simp only [Builtin.zeroCells,Array.getElem_map,Array.getElem_range]
  have e8:(vs [0,0,0,0,0,0,0,0]).size=8:=rfl
  rw [e8]
  rcases h8 with h|h|h|h|h|h|h|h<;>rw [h]<;>rfl
theorem made_made (n:Nat):madeCells (vs [0,0,0,0,0,0,0,0]) (n*8)=bk (List.replicate (n*8) 0) []:=by
 rw [←bk_vs,←zeros_made];rfl
theorem lit8 (a0 a1 a2 a3 a4 a5 a6 a7:Int):(#[.int .u64 a0,.int .u64 a1,.int .u64 a2,.int .u64 a3,.int .u64 a4,.int .u64 a5,.int .u64 a6,.int .u64 a7]:Array Value)=vs [a0,a1,a2,a3,a4,a5,a6,a7]:=rfl
theorem Sl.line {w:World} {b o n:Nat} {xs:List Int} (h:Sl w 8 (some ⟨b,o,none⟩) n (xs.map (Value.int .u64))) {i:Nat} (hi:i<n):
 ∃c t f,w.heap[b]? =some (.cells c t f)∧Qbo (some (.cells c t f)) (o+i*8) 8=true∧XF (some (.cells c t f)) (o+i*8) 8=vs (ln xs i)∧(ln xs i).length=8:=by
 obtain ⟨h1,h2⟩:=h
 rcases h2 with h2|⟨b',o',c,t,f,he,hb,hx⟩
 ·omega
 ·injection he with he;injection he with h3 h4;subst h3;subst h4
  have hl:xs.length=n*8:=by simpa using h1
  have hlen:=congrArg List.length hx
  simp only [List.length_take,List.length_drop,List.length_map,Array.length_toList] at hlen
  refine ⟨c,t,f,hb,?_,?_,?_⟩
  ·rw [Qi];exact decide_eq_true (show o+i*8+8≤c.size by omega)
  ·rw [Xi]
   unfold vs ln
   rw [List.map_take,List.map_drop,←hx]
   rw [List.drop_take,List.take_take,List.drop_drop,Nat.min_eq_left (by omega)]
  ·simp [ln];omega
def Jn (xs:List Int) (v:Nat):List Int:=Zz xs 0 (List.replicate (v*8) 0)
theorem Qda (xs:List Int) (v:Nat) (h:v*8≤xs.length):(Jn xs v).length=xs.length:=by unfold Jn;rw [Qal];simpa using h
theorem rowPut_forget (xs:List Int) (v:Nat) (h:v*8≤xs.length) (r:List Value) (t:TypeId) (f:Nat×Nat):J6 (some (.cells (bk xs r) t f)) 0 (vs (List.replicate (v*8) 0))=some (.cells (bk (Jn xs v) r) t f):=by
 have:=Qh8 (xs:=xs) (l:=List.replicate (v*8) 0) (i:=0) (by unfold Fit;simpa using h) r t f
 simpa [JV,Jn] using this
theorem Qg9 {α:Type} (xs l:List α) (o p n:Nat) (h:p+n≤o) (ho:o≤xs.length):((Zz xs o l).drop p).take n=(xs.drop p).take n:=by
 unfold Zz
 rw [List.append_assoc,List.drop_append_of_le_length (by simp;omega),List.take_append_of_le_length (by simp;omega),List.drop_take,List.take_take,Nat.min_eq_left (by omega)]
theorem Qha {α:Type} (xs l:List α) (o p:Nat) (h:o+l.length≤p) (ho:o+l.length≤xs.length):(Zz xs o l).drop p=xs.drop p:=by
 unfold Zz
 have e1:(xs.take o++l).length=o+l.length:=by simp;omega
 rw [List.drop_append,List.drop_eq_nil_of_le (by omega),List.nil_append,List.drop_drop,e1]
 congr 1;omega
theorem drop_splice_at {α:Type} (xs l:List α) (o:Nat) (ho:o+l.length≤xs.length):((Zz xs o l).drop o).take l.length=l:=by
 unfold Zz
 rw [List.append_assoc,List.drop_append_of_le_length (by simp;omega),List.drop_eq_nil_of_le (by simp;omega),List.nil_append,List.take_append_of_le_length (Nat.le_refl _),List.take_of_length_le (Nat.le_refl _)]
theorem Qe2 (xs l:List Int) (i:Nat) (h:Fit (i*8) 8 xs.length) (hl:l.length=8):ln (JV xs i l) i=l:=by
 have:=h.out
 unfold ln JV
 rw [←hl]
 have e:=drop_splice_at xs l (i*8) (by omega)
 rw [hl] at e ⊢
 exact e
theorem Qdo (xs l:List Int) (i j:Nat) (h:Fit (i*8) 8 xs.length) (hl:l.length=8) (hij:i≠j):ln (JV xs i l) j=ln xs j:=by
 have:=h.out
 unfold ln JV
 rcases Nat.lt_or_gt_of_ne hij with h1|h1
 ·rw [Qha _ _ _ _ (by omega) (by omega)]
 ·exact Qg9 _ _ _ _ _ (by omega) (by omega)
theorem bk_one (xs:List Int):∀v∈xs.map (Value.int .u64),v.oneCell'=true:=by simp [Value.oneCell']
end
section
open Go.ChangeShapes Go.WideShapes Go.ChangeAt Go.RowKit
section
variable {H:Type} {enc:TypeId×Value→H} {P:Program}
theorem law_ret_laid {C:Checked} {os:Os} {f:FuncId} {fn:Func} {s:ChangeSpec} {tb:TypeId} {laid:List (String×DataW Unit)}
 (own:ownKnob C.prog.godebug=none) (started:os.Started) (noInit:C.prog.inits.idxOf? f=none) (hfn:C.prog.funcs[f]? =some fn)
 (witness:∃(w:World) (tape:Tape) (i:Input),w.os=os∧(w.forCall tape i).Shaped C.prog∧i.vars=[]∧Input.okWide C.prog (w.forCall tape i) .any w.heap.size f i∧
  ((s.pre enc C.prog fn [] false (w.forCall tape i).memory i.args∧laidMetH C.prog laid (w.forCall tape i).memory)∧sizedMet enc C.prog fn (OpenSpec.ofChange s) false (w.forCall tape i).memory i.args)∧({}:Assume).holds C.prog (lone (Frame.enter C.prog f i.args .normal) [] (w.forCall tape i)))
 (hsv:s.vars=[]) (hs:∀ds:List (DataW H),ds.length=fn.params.toList.length→s.fn H ds={results:=[.lit (.bool true)],args:=ds})
 (hl:laidOutB C.prog=true) (hps:fn.params.toList.all (fun t=>C.prog.readableRec t&&decide (t<C.prog.types.size))=true)
 (hr:fn.resultTypes=#[tb]) (htb:C.prog.underlying tb=some .bool)
 (walk:∀(W:World) (base:Nat) (args:Array Value) (ds:List (DataW H)) (ps:List MemPlace),
  (∀(j:Nat) t v,fn.params[j]? =some t→args[j]? =some v→Value.okWide C.prog W .any base t v)→
  DataW.TrodAll enc C.prog W 0 (fun _=>true) true fn.params.toList args.toList ds ps→(∀x∈ps,x.block<W.heap.size)→W.noneFrozen ps→
  (DataW.weightsEach C.prog fn.params.toList ds).all (·≤reachBytes)=true→laidMetH C.prog laid W→
  Calls C.prog f args W fun e W'=>e=.returned (.bool true)∧Below W.heap.size W W'):
 ReturnsInHanded {} C os f .any (fun w args=>(s.pre enc C.prog fn [] false w args∧laidMetH C.prog laid w)∧sizedMet enc C.prog fn (OpenSpec.ofChange s) false w args) (s.post enc C.prog fn false true false false):=by
 refine returnsInHanded_of_change_and (C:=C) (X:=fun w _=>laidMetH C.prog laid w) (fun _ _ _ hh h=>h.of_heap hh) own started noInit hfn witness ?_
 intro W base args ds gs before hval hw' _ hsz hL _
 have hlt:∀x∈before,x.block<W.heap.size:=fun x hx=>hw'.lt x hx
 have hW:=hw'
 obtain ⟨p,q,hA,hV,rfl,hfz,hnd⟩:=hw'
 rw [hsv] at hV
 obtain ⟨rfl,rfl⟩:=trodVars_none hV
 simp only [List.append_nil] at hlt hfz hW
 have hsz':(DataW.weightsEach C.prog fn.params.toList ds).all (·≤reachBytes)=true:=by
  have e2:s.plain.varTypes C.prog=[]:=by simp [DataSpec.varTypes,ChangeSpec.plain,hsv]
  have hz3:(DataW.weightsEach C.prog (fn.params.toList++s.plain.varTypes C.prog) (ds++[])).all (·≤reachBytes)=true:=hsz
  rw [e2,List.append_nil,List.append_nil] at hz3
  exact hz3
 refine (walk W base args ds p hval hA hlt hfz hsz' hL).mono fun e W' ⟨he,hb⟩=>?_
 subst he
 have hlen:=Qdj hA
 refine ⟨_,rfl,ds,[],p,[],p,[],hW,?_,?_,?_,?_,?_⟩
 ·rw [List.append_nil,hs ds hlen,hr]
  exact trodAll_mk1 (shut_bool htb _)
 ·rw [List.append_nil,hs ds hlen]
  refine Qgv hl hb (fun t ht=>?_) hA hlt
  have:=List.all_eq_true.1 hps t ht
  simpa using this
 ·rw [hsv,List.append_nil,hs ds hlen]
  rfl
 ·exact World.keptBut_mono (fun x hx=>⟨hx,.inr (.inl hx)⟩) (hb.frame (·∈p))
 ·intro h;cases h
mutual
def flat:DataW H→List Value
 |.lit (.int k n)=>[.int k n]
 |.lit (.bool b)=>[.bool b]
 |.agg ps=>Qdt ps
 |_=>[]
def Qdt:List (DataW H)→List Value
 |[]=>[]
 |d::r=>flat d++Qdt r
end
def Qbx (P:Program) (K:TypeId→Bool):List Field→Nat→Nat→Bool
 |[],off,n=>off==n
 |f::fs,off,n=>K f.type&&f.offset==off&&Qbx P K fs (off+P.cellsOf f.type) n
def plainTy (P:Program):Nat→TypeId→Bool
 |0,_=>false
 |d+1,t=>match P.underlying t with
  |some (.int _)=>true
  |some .bool=>true
  |some (.array n e)=>plainTy P d e&&P.cellsOf t==n*P.cellsOf e
  |some (.struct fs)=>Qbx P (plainTy P d) fs.toList 0 (P.cellsOf t)
  |_=>false
variable {w:World} {base:Nat} {sp:Nat→Bool} {held:Bool}
theorem flat_rows {c:Nat}:∀(n:Nat) (cs:List Value) (xs:List (DataW H×List MemPlace)),cs.length=n*c→xs.length=n→(∀(i:Nat) x,xs[i]? =some x→(cs.drop (i*c)).take c=flat x.1)→cs=Qdt (xs.map (·.1))
 |0,cs,xs,hl,hx,_=>by
  obtain rfl:xs=[]:=List.eq_nil_of_length_eq_zero hx
  obtain rfl:cs=[]:=List.eq_nil_of_length_eq_zero (by simpa using hl)
  simp [Qdt]
 |n+1,cs,[],hl,hx,_=>by simp at hx
 |n+1,cs,x::xs,hl,hx,h=>by
  have h0:=h 0 x rfl
  simp only [Nat.zero_mul,List.drop_zero] at h0
  have ih:=flat_rows (c:=c) n (cs.drop c) xs (by rw [List.length_drop,hl,Nat.add_mul];omega) (by simpa using hx) (fun i y hy=>by
   rw [List.drop_drop,show c+i*c=(i+1)*c by rw [Nat.add_mul];omega]
   exact h (i+1) y (by simpa using hy))
  rw [List.map_cons,Qdt,←h0,←ih,List.take_append_drop]
theorem Qik {K:TypeId→Bool} {m:Nat} (ih:∀(t:TypeId),K t=true→∀(cs:List Value) (x:DataW H×List MemPlace),DataW.trod enc P w base sp held m t cs=some x→cs=flat x.1):
 ∀(fs:List Field) (off:Nat) (cs:List Value) (xs:List (DataW H×List MemPlace)),Qbx P K fs off cs.length=true→xs.length=fs.length→(∀(i:Nat) (f:Field),fs[i]? =some f→DataW.trod enc P w base sp held m f.type ((cs.drop f.offset).take (P.cellsOf f.type))=xs[i]?)→cs.drop off=Qdt (xs.map (·.1))
 |[],off,cs,xs,hk,hx,_=>by
  obtain rfl:xs=[]:=List.eq_nil_of_length_eq_zero hx
  simp only [Qbx,beq_iff_eq] at hk
  simp [Qdt,hk]
 |f::fs,off,cs,[],hk,hx,_=>by simp at hx
 |f::fs,off,cs,x::xs,hk,hx,h=>by
  simp only [Qbx,Bool.and_eq_true,beq_iff_eq] at hk
  obtain ⟨⟨h1,h2⟩,h3⟩:=hk
  have h0:=h 0 f rfl
  rw [h2] at h0
  have e0:=ih _ h1 _ _ h0
  have e1:=Qik ih fs (off+P.cellsOf f.type) cs xs h3 (by simpa using hx) (fun i g hg=>by
   have:=h (i+1) g (by simpa using hg)
   simpa using this)
  rw [List.map_cons,Qdt,←e0,←e1,←List.drop_drop,List.take_append_drop]
theorem trod_flat:∀(d:Nat) (t:TypeId),plainTy P d t=true→∀(m:Nat) (cs:List Value) (x:DataW H×List MemPlace),DataW.trod enc P w base sp held m t cs=some x→cs=flat x.1
 |0,t,hk,_,_,_,_=>by simp [plainTy] at hk
 |d+1,t,hk,m,cs,x,hx=>by
  simp only [plainTy] at hk
  split at hk
  ·rename_i k hu
   obtain ⟨n,rfl,rfl,hw⟩:=DataW.trod_int hu hx
   simp [flat]
  ·rename_i hu
   obtain ⟨b,rfl,rfl⟩:=DataW.trod_bool hu hx
   simp [flat]
  ·rename_i n e hu
   simp only [Bool.and_eq_true,beq_iff_eq] at hk
   obtain ⟨xs,q,_,rfl,hl,hxl,hel⟩:=DataW.trod_array hu hx
   rw [flat]
   exact flat_rows n cs xs (by rw [hl,hk.2]) hxl (fun i y hy=>by
    have hi:i<n:=by rw [←hxl];exact (Vg hy).1
    have:=hel i hi
    rw [hy] at this
    exact trod_flat d e hk.1 _ _ _ this)
  ·rename_i fs hu
   obtain ⟨xs,q,_,rfl,hl,hxl,hel⟩:=DataW.trod_struct hu hx
   rw [flat]
   have:=Qik (K:=plainTy P d) (m:=q) (fun t hk cs x hx=>trod_flat d t hk q cs x hx) fs.toList 0 cs xs (by rw [hl];exact hk) (by simpa using hxl) (fun i f hf=>hel i f (by simpa using hf))
   rwa [List.drop_zero] at this
  ·cases hk
end
end
end Go.Proofs.YtlidfghgjjffaaaGreatDoor
namespace Go.Proofs.YtlidfghgjjffaaaGreatDoor
open Go.ChangeShapes Go.WideShapes Go.ChangeAt Go.RowKit
section
section
variable {H:Type} {enc:TypeId×Value→H} {P:Program} {w:World} {base base':Nat} {spare:Nat→Bool} {held:Bool}
theorem ints_of_cells {k:IntKind}:∀(cs:List Value),(∀i,i<cs.length→∃m,cs[i]? =some (.int k m)∧(Lit.int k m).wf=true)→∃ns:List Int,cs=ns.map (Value.int k)∧∀x∈ns,(Lit.int k x).wf=true
 |[],_=>⟨[],rfl,by simp⟩
 |c::cs,h=>by
  obtain ⟨m,h0,hw⟩:=h 0 (by simp)
  obtain ⟨ns,e,hn⟩:=ints_of_cells cs (fun i hi=>by have:=h (i+1) (by simpa using hi);simpa using this)
  simp at h0
  subst h0;subst e
  exact ⟨m::ns,rfl,by simpa [hw] using hn⟩
end
end
section
set_option linter.unusedVariables false
inductive Kd where
 |int (k:IntKind)
 |bool
 |str
 |slice (e:List Kd)
def Qb0 (P:Program) (K:TypeId→Option (List Kd)):List Field→Nat→Option (List Kd)
 |[],_=>some []
 |f::fs,off=>match K f.type with
  |some ks=>if f.offset=off∧P.cellsOf f.type=ks.length then (Qb0 P K fs (off+ks.length)).map (ks++·) else none
  |none=>none
def kinds (P:Program):Nat→TypeId→Option (List Kd)
 |0,_=>none
 |d+1,t=>match P.underlying t with
  |some (.int k)=>some [.int k]
  |some .bool=>some [.bool]
  |some .string=>some [.str]
  |some (.slice e)=>match kinds P d e with
   |some ks=>if P.cellsOf e=ks.length∧0<ks.length then some [.slice ks] else none
   |none=>none
  |some (.array n e)=>match kinds P d e with
   |some ks=>if P.cellsOf e=ks.length∧P.cellsOf t=n*ks.length then some (List.replicate n ks).flatten else none
   |none=>none
  |some (.struct fs)=>match Qb0 P (kinds P d) fs.toList 0 with
   |some ks=>if P.cellsOf t=ks.length then some ks else none
   |none=>none
  |_=>none
def IsKd (w:World):Kd→Value→Prop
 |.int k,v=>∃n,v=.int k n∧(Lit.int k n).wf=true
 |.bool,v=>∃b,v=.bool b
 |.str,v=>∃s,v=.string s∧s.size≤maxLen
 |.slice ks,v=>∃A n c xs,v=.slice A n c∧n≤c∧c≤maxLen∧Sl w ks.length A n xs∧(A=none→c=0)∧
  ∀i,i<n→∀(j:Nat) (h:j<ks.length),∃u,xs[i*ks.length+j]? =some u∧IsKd w ks[j] u
 termination_by k _=>SizeOf.sizeOf k
 decreasing_by
  have:=List.sizeOf_lt_of_mem (List.getElem_mem h)
  simp only [Kd.slice.sizeOf_spec]
  omega
def AreKd (w:World) (ks:List Kd) (cs:List Value):Prop:=cs.length=ks.length∧∀(j:Nat) (kd:Kd),ks[j]? =some kd→∃v,cs[j]? =some v∧IsKd w kd v
theorem AreKd.append {w:World} {ks ks':List Kd} {cs cs':List Value} (h:AreKd w ks cs) (h':AreKd w ks' cs'):AreKd w (ks++ks') (cs++cs'):=by
 refine ⟨by simp [h.1,h'.1],fun j kd hj=>?_⟩
 by_cases hlt:j<ks.length
 ·rw [List.getElem?_append_left hlt] at hj
  rw [List.getElem?_append_left (by rw [h.1];exact hlt)]
  exact h.2 j kd hj
 ·rw [List.getElem?_append_right (by omega)] at hj
  rw [List.getElem?_append_right (by rw [h.1];omega),h.1]
  exact h'.2 _ kd hj
section
variable {H:Type} {enc:TypeId×Value→H} {P:Program} {w:World} {base:Nat} {spare:Nat→Bool} {held:Bool}
theorem trod_bool' {t:TypeId} {m:Nat} {cs:List Value} {x:DataW H×List MemPlace} (hu:P.underlying t=some .bool) (h:DataW.trod enc P w base spare held m t cs=some x):∃b,cs=[.bool b]:=by
 cases m with
 |zero=>simp [DataW.trod] at h
 |succ m=>
  unfold DataW.trod at h
  rw [hu] at h
  split at h<;>simp_all
theorem trod_str' {t:TypeId} {m:Nat} {cs:List Value} {x:DataW H×List MemPlace} (hu:P.underlying t=some .string) (h:DataW.trod enc P w base spare held m t cs=some x):∃s,cs=[.string s]∧s.size≤maxLen:=by
 cases m with
 |zero=>simp [DataW.trod] at h
 |succ m=>
  unfold DataW.trod at h
  rw [hu] at h
  split at h<;>simp_all
theorem cells_at {a:Addr} {n:Nat} {cs:List Value} (h:w.cells? base a n=some cs):cs.length=n∧∀i,i<n→w.cell? (a.add i)=cs[i]?:=
 let ⟨_,h1,h2⟩:=World.cells?_some h;⟨h1,h2⟩
theorem Qgy {m:Nat} {K:TypeId→Option (List Kd)}
 (ih:∀(t:TypeId) (ks:List Kd),K t=some ks→∀(cs:List Value) (x:DataW H×List MemPlace),DataW.trod enc P w base spare held m t cs=some x→AreKd w ks cs):
 ∀(fs:List Field) (off:Nat) (ks:List Kd) (cs:List Value),Qb0 P K fs off=some ks→cs.length=off+ks.length→
  (∀f∈fs,∃x,DataW.trod enc P w base spare held m f.type ((cs.drop f.offset).take (P.cellsOf f.type))=some x)→AreKd w ks (cs.drop off)
 |[],off,ks,cs,hk,hl,_=>by
  simp [Qb0] at hk;subst hk
  exact ⟨by simp at hl ⊢;omega,by simp⟩
 |f::fs,off,ks,cs,hk,hl,hf=>by
  simp only [Qb0] at hk
  split at hk
  ·rename_i k0 hK
   split at hk
   ·rename_i hc
    obtain ⟨h1,h2⟩:=hc
    obtain ⟨k1,hk1,rfl⟩:=Option.map_eq_some_iff.1 hk
    obtain ⟨x,hx⟩:=hf f (by simp)
    rw [h1,h2] at hx
    have a1:=ih _ _ hK _ _ hx
    have a2:=Qgy ih fs (off+k0.length) k1 cs hk1 (by simp at hl;omega) (fun g hg=>hf g (by simp [hg]))
    have e:cs.drop off=(cs.drop off).take k0.length++cs.drop (off+k0.length):=by
     rw [←List.drop_drop,List.take_append_drop]
    rw [e]
    exact a1.append a2
   ·cases hk
  ·cases hk
theorem are_rows {m:Nat} {e:TypeId} {k0:List Kd} (hce:P.cellsOf e=k0.length)
 (ih:∀(cs:List Value) (x:DataW H×List MemPlace),DataW.trod enc P w base spare held m e cs=some x→AreKd w k0 cs):
 ∀(n:Nat) (cs:List Value),cs.length=n*k0.length→(∀i,i<n→∃x,DataW.trod enc P w base spare held m e ((cs.drop (i*k0.length)).take k0.length)=some x)→AreKd w (List.replicate n k0).flatten cs
 |0,cs,hl,_=>by
  have:cs=[]:=List.eq_nil_of_length_eq_zero (by simpa using hl)
  subst this;exact ⟨by simp,by simp⟩
 |n+1,cs,hl,hf=>by
  rw [List.replicate_succ,List.flatten_cons]
  have e:cs=cs.take k0.length++cs.drop k0.length:=(List.take_append_drop _ _).symm
  rw [e]
  obtain ⟨x,hx⟩:=hf 0 (by omega)
  simp only [Nat.zero_mul,List.drop_zero] at hx
  refine (ih _ _ hx).append (are_rows hce ih n _ (by rw [List.length_drop,hl,Nat.add_mul];omega) fun i hi=>?_)
  obtain ⟨y,hy⟩:=hf (i+1) (by omega)
  rw [List.drop_drop]
  rw [show k0.length+i*k0.length=(i+1)*k0.length by rw [Nat.add_mul];omega]
  exact ⟨y,hy⟩
theorem Qck:∀(d:Nat) (t:TypeId) (ks:List Kd),kinds P d t=some ks→∀(m:Nat) (cs:List Value) (x:DataW H×List MemPlace),DataW.trod enc P w base spare held m t cs=some x→AreKd w ks cs
 |0,t,ks,hk,_,_,_,_=>by simp [kinds] at hk
 |d+1,t,ks,hk,m,cs,x,hx=>by
  simp only [kinds] at hk
  split at hk
  ·rename_i k hu
   injection hk with hk;subst hk
   obtain ⟨n,rfl,_,hw⟩:=DataW.trod_int hu hx
   refine ⟨rfl,fun j kd hj=>?_⟩
   match j,hj with
   |0,hj=>simp at hj;subst hj;exact ⟨_,rfl,by rw [IsKd];exact ⟨n,rfl,hw⟩⟩
  ·rename_i hu
   injection hk with hk;subst hk
   obtain ⟨b,rfl⟩:=trod_bool' hu hx
   refine ⟨rfl,fun j kd hj=>?_⟩
   match j,hj with
   |0,hj=>simp at hj;subst hj;exact ⟨_,rfl,by rw [IsKd];exact ⟨b,rfl⟩⟩
  ·rename_i hu
   injection hk with hk;subst hk
   obtain ⟨s,rfl,hs⟩:=trod_str' hu hx
   refine ⟨rfl,fun j kd hj=>?_⟩
   match j,hj with
   |0,hj=>simp at hj;subst hj;exact ⟨_,rfl,by rw [IsKd];exact ⟨s,rfl,hs⟩⟩
  ·rename_i e hu
   split at hk
   ·rename_i k0 hk0
    split at hk
    ·rename_i hc
     obtain ⟨hce,hpos⟩:=hc
     injection hk with hk;subst hk
     have hS:∃v,cs=[v]∧IsKd w (.slice k0) v:=by
      simp only [IsKd]
      rcases DataW.trod_slice hu hx with ⟨rfl,_⟩|⟨a,len,cap,elems,rest,n,_,rfl,_,hb,hl,hm,hlen,hel,_,_⟩
      ·exact ⟨_,rfl,none,0,0,[],rfl,Nat.le_refl _,by simp [maxLen],⟨by simp,.inl rfl⟩,fun _=>rfl,fun i hi=>by omega⟩
      ·refine ⟨_,rfl,?_⟩
       rw [hce] at hel
       have each:∀i,i<len→∃cs',cs'.length=k0.length∧(∀j,j<k0.length→w.cell? ((a.add (i*k0.length)).add j)=cs'[j]?)∧AreKd w k0 cs':=fun i hi=>by
        have h1:=hel i hi
        have h2:i<elems.length:=by omega
        rw [List.getElem?_eq_getElem h2,Option.bind_eq_some_iff] at h1
        obtain ⟨cs',h3,h4⟩:=h1
        obtain ⟨h5,h6⟩:=cells_at h3
        exact ⟨cs',h5,h6,Qck d e k0 hk0 n cs' _ h4⟩
       rcases Nat.eq_zero_or_pos len with h0|h0
       ·subst h0
        exact ⟨some a,0,cap,[],rfl,hl,hm,⟨by simp,.inl rfl⟩,by simp,fun i hi=>by omega⟩
       ·
        obtain ⟨c0,hc0,hcell0,_⟩:=each 0 h0
        have hz:=hcell0 0 hpos
        have hlt0:0<c0.length:=by omega
        rw [List.getElem?_eq_getElem hlt0] at hz
        have hspot:a.spot=none∧∃c t f,w.heap[a.block]? =some (.cells c t f):=by
         have:((a.add (0*k0.length)).add 0).block=a.block:=by simp [Addr.add]
         unfold World.cell? at hz
         split at hz
         ·rename_i c t f hh
          split at hz
          ·cases hz
          ·rename_i hs
           refine ⟨?_,c,t,f,?_⟩
           ·revert hs;simp [Addr.add]
           ·rw [←hh];simp [Addr.add]
         ·cases hz
        obtain ⟨hsp,c,t',f,hh⟩:=hspot
        obtain ⟨b,o,sp⟩:=a
        simp only at hsp hh
        subst hsp
        have cellat:∀i,i<len→∀j,j<k0.length→∃v,c[o+(i*k0.length+j)]? =some v:=fun i hi j hj=>by
         obtain ⟨c1,hc1,hcell1,_⟩:=each i hi
         have:=hcell1 j hj
         rw [Addr.add_mid,Addr.add_mid,QG,hh,Qb,List.getElem?_eq_getElem (by omega)] at this
         rw [Nat.add_assoc] at this
         exact ⟨_,this⟩
        have hfit:o+len*k0.length≤c.size:=by
         obtain ⟨v,hv⟩:=cellat (len-1) (by omega) (k0.length-1) (by omega)
         have:=(Array.getElem?_eq_some_iff.1 hv).1
         have e1:(len-1)*k0.length+k0.length=len*k0.length:=by
          rw [←Nat.succ_mul];congr 1;omega
         omega
        refine ⟨some ⟨b,o,none⟩,len,cap,(c.toList.drop o).take (len*k0.length),rfl,hl,hm,⟨by simp;omega,.inr ⟨b,o,c,t',f,rfl,hh,rfl⟩⟩,by simp,fun i hi j hjlt=>?_⟩
        obtain ⟨c1,hc1,hcell1,hk1⟩:=each i hi
        obtain ⟨v,hv,hkd⟩:=hk1.2 j k0[j] (List.getElem?_eq_getElem hjlt)
        refine ⟨v,?_,hkd⟩
        have hlt:i*k0.length+j<len*k0.length:=by
         have:(i+1)*k0.length≤len*k0.length:=Nat.mul_le_mul_right _ (by omega)
         rw [Nat.add_mul] at this
         omega
        rw [List.getElem?_take_of_lt hlt,List.getElem?_drop]
        have h7:=hcell1 j hjlt
        rw [Addr.add_mid,Addr.add_mid,QG,hh,Qb,hv] at h7
        rw [←h7,Array.getElem?_toList,Nat.add_assoc]
     obtain ⟨v,rfl,hv⟩:=hS
     refine ⟨rfl,fun j kd hj=>?_⟩
     match j,hj with
     |0,hj=>simp at hj;subst hj;exact ⟨_,rfl,hv⟩
    ·cases hk
   ·cases hk
  ·rename_i n e hu
   split at hk
   ·rename_i k0 hk0
    split at hk
    ·rename_i hc
     injection hk with hk;subst hk
     obtain ⟨xs,q,_,_,hl,hxl,hel⟩:=DataW.trod_array hu hx
     refine (are_rows hc.1 (fun cs x h=>Qck d e k0 hk0 q cs x h) n cs (by rw [hl,hc.2]) fun i hi=>?_)
     have:=hel i hi
     rw [hc.1,List.getElem?_eq_getElem (by omega)] at this
     exact ⟨_,this⟩
    ·cases hk
   ·cases hk
  ·rename_i fs hu
   split at hk
   ·rename_i k0 hk0
    split at hk
    ·rename_i hc
     injection hk with hk;subst hk
     obtain ⟨xs,q,_,_,hl,hxl,hel⟩:=DataW.trod_struct hu hx
     have:=Qgy (m:=q) (K:=kinds P d) (fun t ks h cs x hx=>Qck d t ks h q cs x hx) fs.toList 0 k0 cs hk0 (by rw [hl,hc];omega) (fun f hf=>by
      obtain ⟨i,hi,he⟩:=List.getElem_of_mem hf
      have hfi:fs[i]? =some f:=by rw [←he];simp at hi ⊢
      have:=hel i f hfi
      have hlt:i<xs.length:=by rw [hxl];exact (Array.getElem?_eq_some_iff.1 hfi).1
      rw [List.getElem?_eq_getElem hlt] at this
      exact ⟨_,this⟩)
     rw [List.drop_zero] at this
     exact this
    ·cases hk
   ·cases hk
  ·cases hk
theorem open_row {r:Reach} {b0:Nat} {t:TypeId} {v:Value} {d:DataW H} {ps:List MemPlace} {n:Nat} {ks:List Kd} (hu:(match P.underlying t with|some (.struct _)|some (.array _ _)=>true|_=>false)=true) (hk:kinds P n t=some ks)
 (hok:Value.okWide P w r b0 t v) (h:DataW.Trod enc P w base spare held t v d ps):∃cs:List Value,v=.agg cs.toArray∧AreKd w ks cs:=by
 obtain ⟨m,hf⟩:=h
 have:=Qck n t ks hk m _ _ hf
 have hv:∃cs,v=.agg cs:=by
  simp only [Value.okWide] at hok
  split at hok
  ·obtain ⟨cs,rfl,_⟩:=hok;exact ⟨cs,rfl⟩
  ·obtain ⟨cs,rfl,_⟩:=hok;exact ⟨cs,rfl⟩
  ·rename_i h1 h2
   split at hu
   ·rename_i fs he;exact absurd he (h1 fs)
   ·rename_i k e he;exact absurd he (h2 k e)
   ·cases hu
 obtain ⟨cs,rfl⟩:=hv
 exact ⟨cs.toList,by simp,this⟩
theorem open_sl {r:Reach} {b0:Nat} {t e:TypeId} {v:Value} {d:DataW H} {ps:List MemPlace} {n:Nat} {kd:Kd} (hu:P.underlying t=some (.slice e)) (hk:kinds P n t=some [kd])
 (hok:Value.okWide P w r b0 t v) (h:DataW.Trod enc P w base spare held t v d ps):IsKd w kd v:=by
 obtain ⟨m,hf⟩:=h
 have:=Qck n t _ hk m _ _ hf
 obtain ⟨a,l,c,rfl⟩:=okWide_slice hu hok
 obtain ⟨u,h1,h2⟩:=this.2 0 kd rfl
 simp [Value.cells] at h1
 rw [h1];exact h2
end
theorem AreKd.ints {w:World} {m:Nat} {k:IntKind} {cs:List Value} (h:AreKd w (List.replicate m (.int k)) cs):∃ns:List Int,ns.length=m∧cs=ns.map (Value.int k)∧∀x∈ns,(Lit.int k x).wf=true:=by
 have hl:cs.length=m:=by simpa using h.1
 obtain ⟨ns,e,hw⟩:=ints_of_cells (k:=k) cs (fun i hi=>by
  obtain ⟨v,h1,h2⟩:=h.2 i (.int k) (by rw [List.getElem?_replicate,if_pos (by omega)])
  rw [IsKd] at h2
  obtain ⟨n,rfl,hw⟩:=h2
  exact ⟨n,h1,hw⟩)
 exact ⟨ns,by rw [←hl,e];simp,e,hw⟩
theorem AreKd.cut {w:World} {ks ks':List Kd} {cs:List Value} (h:AreKd w (ks++ks') cs):∃c1 c2,cs=c1++c2∧AreKd w ks c1∧AreKd w ks' c2:=by
 have hl:cs.length=ks.length+ks'.length:=by simpa using h.1
 refine ⟨cs.take ks.length,cs.drop ks.length,by simp,⟨by simp;omega,fun j kd hj=>?_⟩,⟨by simp;omega,fun j kd hj=>?_⟩⟩
 ·have hlt:j<ks.length:=(Vg hj).1
  rw [List.getElem?_take_of_lt hlt]
  exact h.2 j kd (by rw [List.getElem?_append_left hlt];exact hj)
 ·rw [List.getElem?_drop]
  exact h.2 _ kd (by rw [List.getElem?_append_right (by omega)];simpa using hj)
theorem AreKd.head {w:World} {k:Kd} {ks:List Kd} {cs:List Value} (h:AreKd w (k::ks) cs):∃v c,cs=v::c∧IsKd w k v∧AreKd w ks c:=by
 obtain ⟨c1,c2,rfl,h1,h2⟩:=AreKd.cut (ks:=[k]) (ks':=ks) h
 obtain ⟨v,hv,hk⟩:=h1.2 0 k rfl
 match c1,h1.1 with
 |[u],_=>simp at hv;subst hv;exact ⟨u,c2,rfl,hk,h2⟩
theorem AreKd.done {w:World} {cs:List Value} (h:AreKd w [] cs):cs=[]:=List.eq_nil_of_length_eq_zero (by simpa using h.1)
theorem IsKd.rows {w:World} {ks:List Kd} {v:Value} (h:IsKd w (.slice ks) v):∃A n c,∃xs:List Value,v=.slice A n c∧n≤c∧c≤maxLen∧Sl w ks.length A n xs∧(A=none→c=0)∧∀i,i<n→AreKd w ks ((xs.drop (i*ks.length)).take ks.length):=by
 rw [IsKd] at h
 obtain ⟨A,n,c,xs,rfl,hn,hc,hs,h0,hx⟩:=h
 refine ⟨A,n,c,xs,rfl,hn,hc,hs,h0,fun i hi=>?_⟩
 have hle:(i+1)*ks.length≤n*ks.length:=Nat.mul_le_mul_right _ (by omega)
 rw [Nat.add_mul] at hle
 refine ⟨by rw [List.length_take,List.length_drop,hs.1];omega,fun j kd hj=>?_⟩
 have hlt:j<ks.length:=(Vg hj).1
 obtain ⟨u,h1,h2⟩:=hx i hi j hlt
 have e:ks[j]=kd:=by rw [List.getElem?_eq_getElem hlt] at hj;exact Option.some.inj hj
 rw [e] at h2
 exact ⟨u,by rw [List.getElem?_take_of_lt hlt,List.getElem?_drop];exact h1,h2⟩
def kLine:List Kd:=List.replicate 8 (.int .u64)
theorem IsKd.ints {w:World} {k:IntKind} {v:Value} (h:IsKd w (.slice [.int k]) v):∃A n c,∃xs:List Int,v=.slice A n c∧n≤c∧c≤maxLen∧Sl w 1 A n (xs.map (Value.int k))∧∀x∈xs,(Lit.int k x).wf=true:=by
 obtain ⟨A,n,c,xs,rfl,hn,hc,hs,h0,hx⟩:=h.rows
 have hl:xs.length=n:=by simpa using hs.1
 obtain ⟨ns,e,hw⟩:=ints_of_cells (k:=k) xs (fun i hi=>by
  have h1:=hx i (by omega)
  have e1:(xs.drop (i*[Kd.int k].length)).take [Kd.int k].length=[xs[i]]:=by
   simp only [List.length_cons,List.length_nil,Nat.zero_add,Nat.mul_one]
   rw [List.drop_eq_getElem_cons hi];rfl
  rw [e1] at h1
  obtain ⟨v,c,h2,h3,_⟩:=h1.head
  injection h2 with h2 _
  rw [IsKd] at h3
  obtain ⟨m,rfl,hw⟩:=h3
  exact ⟨m,by rw [List.getElem?_eq_getElem hi,h2],hw⟩)
 exact ⟨A,n,c,ns,rfl,hn,hc,by rw [←e];exact hs,hw⟩
end
end Go.Proofs.YtlidfghgjjffaaaGreatDoor
namespace Go.Proofs.YtlidfghgjjffaaaGreatDoor
open Go.RowKit
set_option linter.unusedVariables false
section
section
variable {α:Type} {enc:α→List Value} {k:Nat}
def cat (enc:α→List Value) (xs:List α):List Value:=(xs.map enc).flatten
theorem cat_cons (x:α) (xs:List α):cat enc (x::xs)=enc x++cat enc xs:=by simp [cat]
theorem Jc (xs ys:List α):cat enc (xs++ys)=cat enc xs++cat enc ys:=by simp [cat]
theorem Qdb (x:α):cat enc [x]=enc x:=by simp [cat]
theorem Q9 (hk:∀a,(enc a).length=k):∀xs:List α,(cat enc xs).length=xs.length*k
 |[]=>by simp [cat]
 |x::xs=>by rw [cat_cons,List.length_append,Q9 hk xs,hk,List.length_cons,Nat.add_mul];omega
theorem Qf0 (hk:∀a,(enc a).length=k):∀(xs:List α) (i:Nat),(cat enc xs).take (i*k)=cat enc (xs.take i)
 |[],i=>by simp [cat]
 |x::xs,0=>by simp [cat]
 |x::xs,i+1=>by
  rw [cat_cons,List.take_succ_cons,cat_cons,←Qf0 hk xs i,List.take_append,List.take_of_length_le (by rw [hk,Nat.add_mul];omega),hk]
  congr 2
  rw [Nat.add_mul];omega
theorem Qf1 (hk:∀a,(enc a).length=k):∀(xs:List α) (i:Nat),(cat enc xs).drop (i*k)=cat enc (xs.drop i)
 |[],i=>by simp [cat]
 |x::xs,0=>by simp [cat]
 |x::xs,i+1=>by
  rw [cat_cons,List.drop_succ_cons,←Qf1 hk xs i,List.drop_append,List.drop_eq_nil_of_le (by rw [hk,Nat.add_mul];omega),hk,List.nil_append]
  congr 1
  rw [Nat.add_mul];omega
theorem YI (hk:∀a,(enc a).length=k) {xs:List α} {i:Nat} {a:α} (h:xs[i]? =some a):((cat enc xs).drop (i*k)).take k=enc a:=by
 obtain ⟨hi,rfl⟩:=Vg h
 rw [Qf1 hk,List.drop_eq_getElem_cons hi,cat_cons,List.take_append_of_le_length (by rw [hk];omega),List.take_of_length_le (by rw [hk];omega)]
theorem Qel (hk:∀a,(enc a).length=k) (xs ys:List α) (i:Nat):Zz (cat enc xs) (i*k) (cat enc ys)=cat enc (Zz xs i ys):=by
 unfold Zz
 rw [Qf0 hk,Q9 hk,←Nat.add_mul,Qf1 hk,Jc,Jc]
theorem Qcf (h1:∀a,∀v∈enc a,v.oneCell'=true) (xs:List α):∀v∈cat enc xs,v.oneCell'=true:=by
 intro v hv
 simp only [cat,List.mem_flatten,List.mem_map] at hv
 obtain ⟨l,⟨a,_,rfl⟩,hv⟩:=hv
 exact h1 a v hv
def sq (enc:α→List Value) (xs:List α) (r:List Value):Array Value:=(cat enc xs++r).toArray
theorem JD (hk:∀a,(enc a).length=k) (xs:List α) (r:List Value):(sq enc xs r).size=xs.length*k+r.length:=by simp [sq,Q9 hk]
theorem YF (xs:List α) (r:List Value):(sq enc xs r).toList=cat enc xs++r:=by simp [sq]
theorem JX {i n k:Nat} (h:i<n):i*k+k≤n*k:=by rw [←Nat.succ_mul];exact Nat.mul_le_mul_right _ h
theorem Qcm (hk:∀a,(enc a).length=k) {xs:List α} {i:Nat} {a:α} (h:xs[i]? =some a) (r:List Value) (t:TypeId) (f:Nat×Nat) (o n:Nat) (hn:o+n≤k):
 XF (some (.cells (sq enc xs r) t f)) (i*k+o) n=((enc a).drop o |>.take n).toArray:=by
 have hi:=(Vg h).1
 have hl:=Q9 hk xs
 have hm:=JX (k:=k) hi
 rw [Xi,YF,←List.drop_drop,List.drop_append_of_le_length (by rw [hl];omega),List.drop_append_of_le_length (by rw [List.length_drop,hl];omega),List.take_append_of_le_length (by rw [List.length_drop,List.length_drop,hl];omega)]
 rw [←YI hk h,List.drop_take,List.take_take,Nat.min_eq_left (by omega)]
theorem Qff (hk:∀a,(enc a).length=k) {xs:List α} {i:Nat} (hi:i<xs.length) (r:List Value) (t:TypeId) (f:Nat×Nat) (o n:Nat) (hn:o+n≤k):
 Qbo (some (.cells (sq enc xs r) t f)) (i*k+o) n=true:=by
 have hm:=JX (k:=k) hi
 rw [Qi,JD hk]
 exact decide_eq_true (show _≤_ by omega)
theorem JU (hk:∀a,(enc a).length=k) {xs:List α} {i:Nat} {a:α} (h:xs[i]? =some a) (r:List Value) (o:Nat) (ho:o<k):(sq enc xs r)[i*k+o]? =(enc a)[o]?:=by
 have hi:=(Vg h).1
 have hl:=Q9 hk xs
 have hm:=JX (k:=k) hi
 rw [←YI hk h]
 unfold sq
 rw [List.getElem?_toArray,List.getElem?_append_left (by rw [hl];omega),List.getElem?_take_of_lt ho,List.getElem?_drop]
end
structure Elt {α:Type} (P:Program) (t e:TypeId) (k bytes:Nat) (z:Value) (enc:α→List Value):Prop where
 slice:P.underlying t=some (.slice e)
 info:(P.info? e).map (fun i=>(i.zero,i.size,i.bytes))=some (some z,k,bytes)
 zero:z.cells.size=k
 zone:∀v∈z.cells,v.oneCell'=true
 pos:0<k
 len:∀a,(enc a).length=k
 one:∀a,∀v∈enc a,v.oneCell'=true
section
variable {α:Type} {enc:α→List Value} {k bytes:Nat} {P:Program} {t ty e:TypeId} {z:Value}
def Vec (k:Nat) (e:TypeId) (enc:α→List Value) (w:World) (q be:Nat) (A:Option Addr) (cap:Nat) (xs:List α):Prop:=
 (be=q∧A=none∧cap=0∧xs=[])∨(be≠q∧A=some ⟨be,0,none⟩∧xs.length≤cap∧∃r:List Value,w.heap[be]? =some (.cells (sq enc xs r) e (0,0))∧xs.length*k+r.length=cap*k)
theorem Vec.nil (k:Nat) (e:TypeId) (enc:α→List Value) (w:World) (q:Nat):Vec k e enc w q q none 0 ([]:List α):=.inl ⟨rfl,rfl,rfl,rfl⟩
theorem Vec.le {w:World} {q be:Nat} {A:Option Addr} {cap:Nat} {xs:List α} (h:Vec k e enc w q be A cap xs):xs.length≤cap:=by
 rcases h with ⟨_,_,rfl,rfl⟩|⟨_,_,h,_⟩
 ·simp
 ·exact h
theorem Vec.keep {w w':World} {q be:Nat} {A:Option Addr} {cap:Nat} {xs:List α} {l:List Nat} (h:Vec k e enc w q be A cap xs) (hc:Chg l w w') (hb:be∉l):Vec k e enc w' q be A cap xs:=
 h.imp id fun ⟨h1,h2,h3,r,h4,h5⟩=>⟨h1,h2,h3,r,hc.keep h4 hb,h5⟩
theorem Vec.old {w:World} {q be:Nat} {A:Option Addr} {cap:Nat} {xs:List α} (h:Vec k e enc w q be A cap xs) (hq:Old w q):Old w be:=by
 rcases h with ⟨rfl,_⟩|⟨_,_,_,r,h4,_⟩
 ·exact hq
 ·exact Go.Proofs.YtlidfghgjjffaaaGreatDoor.old h4
theorem Vec.there {w:World} {q be:Nat} {A:Option Addr} {cap:Nat} {xs:List α} (h:Vec k e enc w q be A cap xs) (h0:0<xs.length):be≠q∧A=some ⟨be,0,none⟩∧∃r:List Value,w.heap[be]? =some (.cells (sq enc xs r) e (0,0))∧xs.length*k+r.length=cap*k:=by
 rcases h with ⟨_,_,_,rfl⟩|⟨h1,h2,_,h3⟩
 ·simp at h0
 ·exact ⟨h1,h2,h3⟩
theorem Vec.sl (hk:∀a,(enc a).length=k) {w:World} {q be:Nat} {A:Option Addr} {cap:Nat} {xs:List α} (h:Vec k e enc w q be A cap xs):Sl w k A xs.length (cat enc xs):=by
 refine ⟨Q9 hk xs,?_⟩
 rcases h with ⟨_,_,_,rfl⟩|⟨_,rfl,_,r,h4,_⟩
 ·exact .inl rfl
 ·exact .inr ⟨be,0,_,e,(0,0),rfl,h4,by rw [YF,List.drop_zero,List.take_append_of_le_length (by rw [Q9 hk];exact Nat.le_refl _),List.take_of_length_le (by rw [Q9 hk];exact Nat.le_refl _)]⟩
theorem Vec.slFrom (hk:∀a,(enc a).length=k) {w:World} {q be:Nat} {cap:Nat} {xs:List α} (h:Vec k e enc w q be (some ⟨be,0,none⟩) cap xs) {i:Nat} (hi:i≤xs.length):Sl w k (some ⟨be,i*k,none⟩) (xs.length-i) (cat enc (xs.drop i)):=by
 refine ⟨by rw [Q9 hk,List.length_drop],?_⟩
 rcases h with ⟨_,h,_⟩|⟨_,_,_,r,h4,_⟩
 ·cases h
 ·have hm:i*k≤xs.length*k:=Nat.mul_le_mul_right _ hi
  refine .inr ⟨be,i*k,_,e,(0,0),rfl,h4,?_⟩
  rw [YF,List.drop_append_of_le_length (by rw [Q9 hk];exact hm),Qf1 hk,List.take_append_of_le_length (by rw [Q9 hk,List.length_drop];exact Nat.le_refl _),List.take_of_length_le (by rw [Q9 hk,List.length_drop];exact Nat.le_refl _)]
theorem Vec.app (E:Elt P t e k bytes z enc) {w:World} {q be:Nat} {A:Option Addr} {cap:Nat} {xs:List α} (hv:Vec k e enc w q be A cap xs) (hq:Old w q)
 {B:Option Addr} {m c:Nat} {ys:List α} (hs:Sl w k B m (cat enc ys)) (hm:ys.length=m) (hB:(xs.length+m)*bytes≤140737488355328) (h63:xs.length+m≤maxLen):
 ∃(be' cap':Nat) (A':Option Addr) (w':World),appR P t ty #[.slice A xs.length cap,.slice B m c] w=.ok (.slice A' (xs.length+m) cap') w'∧Vec k e enc w' q be' A' cap' (xs++ys)∧(be'=be∨w.heap.size≤be')∧Chg [be] w w'∧w'.heap[q]? =w.heap[q]?:=by
 obtain ⟨i0,hi0,hz0,hz1,hz2⟩:=info_parts E.info
 subst hz1
 subst hz2
 have h63':xs.length+m≤9223372036854775807:=by simp only [maxLen] at h63;omega
 rcases Nat.eq_zero_or_pos m with h0|h0
 ·subst h0
  obtain rfl:ys=[]:=List.eq_nil_of_length_eq_zero hm
  have hfc:=YK (P:=P) w i0.size 0 B 0 c [] ⟨by simp,.inl rfl⟩
  refine ⟨be,cap,A,w,?_,by simpa using hv,.inl rfl,Chg.refl _ _,rfl⟩
  have hle:=hv.le
  unfold appR
  cases A with
  |none=>simp [Builtin.append_,run_underlying E.slice,sizeOf,typeInfo,hi0,Builtin.lenOf,hfc,hle]
  |some a=>simp [Builtin.append_,run_underlying E.slice,sizeOf,typeInfo,hi0,Builtin.lenOf,hfc,hle,storeCells]
 ·obtain ⟨b,o,rfl⟩:=hs.addr h0
  have hcells:∀j v,(cat enc ys)[j]? =some v→w.cell? ((⟨b,o,none⟩:Addr).add j)=some v:=hs.cells
  have hlen:(cat enc ys).length=m*i0.size:=hs.1
  rcases hv with ⟨rfl,rfl,rfl,rfl⟩|⟨hne,rfl,hle,r,hb,hr⟩
  ·have:=run_append_nil (P:=P) w t ty e i0 z E.slice hi0 hz0 ⟨b,o,none⟩ m c (cat enc ys) hlen hcells h0 (by rw [List.length_nil,Nat.zero_add] at h63';omega) (by rw [List.length_nil,Nat.zero_add] at hB;omega)
   have hge:=grownCap_ge w m 0 e
   refine ⟨w.heap.size,grownCap w m 0 e,some ⟨w.heap.size,0,none⟩,_,by simpa [appR] using this,?_,.inr (Nat.le_refl _),(Chg.refl _ _).drew.alloc _,?_⟩
   ·refine .inr ⟨by have:=hq.lt;omega,rfl,by simp [hm];exact hge,(Builtin.zeroCells z.cells (grownCap w m 0 e-m)).toList,?_,?_⟩
    ·rw [heap_alloc]
     have h2:w.drew.heap[w.heap.size]? =none:=Array.getElem?_eq_none (Nat.le_refl _)
     have h3:w.heap.size=w.drew.heap.size:=rfl
     rw [h2,if_pos h3]
     simp [sq]
    ·simp only [List.nil_append,hm,Array.length_toList,size_zeroCells,E.zero]
     rw [←Nat.add_mul];congr 1;omega
   ·rw [heap_alloc,Qk,if_neg Cz13,Option.or_none]
  ·by_cases hroom:xs.length+m≤cap
   ·have hmul:(xs.length+m)*i0.size≤cap*i0.size:=Nat.mul_le_mul_right _ hroom
    rw [Nat.add_mul] at hmul
    have hsz:(sq enc xs r).size=xs.length*i0.size+r.length:=JD E.len xs r
    have hrow:ZX (w.heap[be]?) (xs.length*i0.size) (cat enc ys).length=true:=by
     rw [hb,Qe,hsz,hlen]
     exact decide_eq_true (show _≤_ by omega)
    have hr2:=run_append_room_cells (P:=P) w t ty e i0 E.slice hi0 be 0 xs.length cap ⟨b,o,none⟩ m c (cat enc ys) hlen hcells (Qcf E.one ys) hroom
     (by intro j hj;rw [Nat.zero_add,QG,hb,Qb];simp;rw [hsz];omega)
     (by intro j hj;rw [Nat.zero_add,Qs,hb,Qa])
    rw [Nat.zero_add] at hr2
    refine ⟨be,cap,_,_,hr2,.inr ⟨hne,rfl,by simp [hm,hroom],r.drop (m*i0.size),?_,?_⟩,.inl rfl,Chg.setCells be (.inl (by simp)) _ _ _ (Chg.refl _ _),?_⟩
    ·rw [JM _ _ _ _ _ hrow,if_pos rfl,hb,XD,YF]
     congr 2
     unfold sq Zz
     rw [List.toList_toArray,List.take_append_of_le_length (by rw [Q9 E.len];exact Nat.le_refl _),List.take_of_length_le (by rw [Q9 E.len];exact Nat.le_refl _),Jc,hlen,List.drop_append,Q9 E.len,List.drop_eq_nil_of_le (by rw [Q9 E.len];omega),List.nil_append]
     congr 3
     omega
    ·simp only [List.length_append,hm,List.length_drop]
     rw [Nat.add_mul];omega
    ·rw [JM _ _ _ _ _ hrow,if_neg (Ne.symm hne)]
   ·have holds:∀j v,(cat enc xs)[j]? =some v→w.cell? ((⟨be,0,none⟩:Addr).add j)=some v:=by
     intro j v hv
     have hj:=(Vg hv).1
     rw [Addr.add_mid,QG,hb,Qb]
     unfold sq
     rw [List.getElem?_toArray,Nat.zero_add,List.getElem?_append_left hj]
     exact hv
    have hgr:=run_append_grow (P:=P) w t ty e i0 z E.slice hi0 hz0 ⟨be,0,none⟩ xs.length cap (cat enc xs) (Q9 E.len xs) holds ⟨b,o,none⟩ m c (cat enc ys) hlen hcells (by omega) (by omega) (growslice_fits (by omega) hB)
    have hge:=grownCap_ge w (xs.length+m) cap e
    refine ⟨w.heap.size,grownCap w (xs.length+m) cap e,_,_,hgr,?_,.inr (Nat.le_refl _),(Chg.refl _ _).drew.alloc _,?_⟩
    ·refine .inr ⟨by have:=hq.lt;omega,rfl,by simp [hm];exact hge,(Builtin.zeroCells z.cells (grownCap w (xs.length+m) cap e-(xs.length+m))).toList,?_,?_⟩
     ·rw [heap_alloc]
      have h2:w.drew.heap[w.heap.size]? =none:=Array.getElem?_eq_none (Nat.le_refl _)
      have h3:w.heap.size=w.drew.heap.size:=rfl
      rw [h2,if_pos h3]
      simp [sq,Jc]
     ·simp only [List.length_append,hm,Array.length_toList,size_zeroCells,E.zero]
      rw [←Nat.add_mul];congr 1;omega
    ·rw [heap_alloc,Qk,if_neg Cz13,Option.or_none]
theorem Chg.less {q:Nat} {w w':World} (h:Chg [q] w w') (hq:w'.heap[q]? =w.heap[q]?):Chg [] w w':=
 ⟨h.os,h.tape,h.output,h.size,fun j hj _=>by
  by_cases e:j=q
  ·rw [e,hq]
  ·exact h.block j hj (by simpa using e)⟩
theorem Vec.acc (E:Elt P t e k bytes z enc) {w0 w:World} {q be:Nat} {A:Option Addr} {cap:Nat} {xs:List α} (hc:Chg [] w0 w) (hv:Vec k e enc w q be A cap xs) (hbe:be=q∨w0.heap.size≤be) (hq:Old w0 q)
 {B:Option Addr} {m c:Nat} {ys:List α} (hs:Sl w k B m (cat enc ys)) (hm:ys.length=m) (hB:(xs.length+m)*bytes≤140737488355328) (h63:xs.length+m≤maxLen):
 ∃(be' cap':Nat) (A':Option Addr) (w':World),appR P t ty #[.slice A xs.length cap,.slice B m c] w=.ok (.slice A' (xs.length+m) cap') w'∧Vec k e enc w' q be' A' cap' (xs++ys)∧(be'=q∨w0.heap.size≤be')∧Chg [] w0 w':=by
 obtain ⟨be',cap',A',w',h1,h2,h3,h4,h5⟩:=hv.app (ty:=ty) E (hq.chg hc) hs (c:=c) hm hB h63
 have hsz:=hc.size
 refine ⟨be',cap',A',w',h1,h2,?_,?_⟩
 ·rcases h3 with rfl|h3
  ·exact hbe
  ·exact .inr (by omega)
 ·rcases hbe with rfl|hbe
  ·exact hc.trans (h4.less h5)
  ·exact hc.trans' h4 (by simpa using hbe)
theorem run_copy_sl {t':TypeId} {i:TypeInfo} (ht:P.underlying t=some (.slice e)) (hi:P.info? e=some i) (w:World) (b o:Nat) (A:Option Addr) (n c m d:Nat) (xs:List Value) (h:Sl w i.size A n xs) (hn:n≤m) (h1:∀v∈xs,v.oneCell'=true) (hb:ZX (w.heap[b]?) o xs.length=true):
 copR P t t' ty #[.slice (some ⟨b,o,none⟩) m d,.slice A n c] w=.ok (goInt n) (putRow w b o xs.toArray):=by
 have hf:=YK (P:=P) w i.size n A n c xs h
 have hst:=run_storeCells_cells (P:=P) b o xs 0 w ?_ ?_ h1
 ·simp only [Nat.add_zero] at hst
  have hmin:Nat.min n m=n:=Nat.min_eq_left hn
  simp [copR,Builtin.copy_,run_underlying ht,Builtin.lenOf,sizeOf,typeInfo,hi,hf,hst,putRow,hmin]
 all_goals
  intro j hj
  rw [Nat.add_zero]
  cases e:w.heap[b]? with
  |none=>rw [e] at hb;cases hb
  |some x=>
   rw [e] at hb
   cases x with
   |cells c t f=>
    simp [ZX] at hb
    obtain ⟨hb,rfl⟩:=hb
    have:=hb.out
    first
     |(rw [QG,e,Qb];simp;omega)
     |(rw [Qs,e,Qa])
   |_=>simp [ZX] at hb
theorem run_clear_sl (ht:P.underlying t=some (.slice e)) (hv:∀w,(zeroValue e).run P w=.ok z w) (h1:∀v∈z.cells,v.oneCell'=true) (w:World) (b o n c:Nat) (h0:0<n) (hb:ZX (w.heap[b]?) o (n*z.cells.size)=true):
 clrR P t ty #[.slice (some ⟨b,o,none⟩) n c] w=.ok (.tuple #[]) (putRow w b o (Builtin.zeroCells z.cells n)):=by
 obtain ⟨m,rfl⟩:∃m,n=m+1:=⟨n-1,by omega⟩
 have hst:=run_storeCells_cells (P:=P) b o (Builtin.zeroCells z.cells (m+1)).toList 0 w ?_ ?_ ?_
 ·simp only [Nat.add_zero] at hst
  simp [clrR,Builtin.clear_,run_underlying ht,hv,hst,putRow]
 ·intro j hj
  rw [Nat.add_zero]
  have hj':j<(m+1)*z.cells.size:=by simpa [size_zeroCells] using hj
  cases e:w.heap[b]? with
  |none=>rw [e] at hb;cases hb
  |some x=>
   rw [e] at hb
   cases x with
   |cells c t f=>
    simp [ZX] at hb
    have:=hb.1.out
    rw [QG,e,Qb];simp;omega
   |_=>simp [ZX] at hb
 ·intro j hj
  rw [Nat.add_zero]
  cases e:w.heap[b]? with
  |none=>rw [e] at hb;cases hb
  |some x=>
   rw [e] at hb
   cases x with
   |cells c t f=>
    simp [ZX] at hb
    obtain ⟨hb,rfl⟩:=hb
    rw [Qs,e,Qa]
   |_=>simp [ZX] at hb
 ·intro v hv'
  simp only [Builtin.zeroCells,Array.toList_map,List.mem_map] at hv'
  obtain ⟨k,hk,rfl⟩:=hv'
  have hk':k<(m+1)*z.cells.size:=by simpa using hk
  have hz0:0<z.cells.size:=by
   rcases Nat.eq_zero_or_pos z.cells.size with h|h
   ·rw [h] at hk';omega
   ·exact h
  have hlt:=Nat.mod_lt k hz0
  rw [getElem!_pos z.cells (k % z.cells.size) hlt]
  exact h1 _ (Array.getElem_mem hlt)
theorem run_clear_sl0 (ht:P.underlying t=some (.slice e)) (w:World) (A:Option Addr) (c:Nat):clrR P t ty #[.slice A 0 c] w=.ok (.tuple #[]) w:=by
 cases A<;>simp [clrR,Builtin.clear_,run_underlying ht]
end
theorem Qft {o:Nat}:∀(l:List Value) (C:Array Value) (j:Nat),o+j+l.length≤C.size→(l.zipIdx j).foldl (fun cs y=>cs.setIfInBounds (o+y.snd) y.fst) C=(Zz C.toList (o+j) l).toArray
 |[],C,j,_=>by simp [Zz]
 |v::l,C,j,h=>by
  simp only [List.length_cons] at h
  rw [List.zipIdx_cons,List.foldl_cons,Qft l _ (j+1) (by simp;omega),Array.toList_setIfInBounds,←Nat.add_assoc,Qhz _ _ _ _ (by simp;omega)]
theorem Qef (C v:Array Value) (o n:Nat) (hv:v.size=n) (h:o+n≤C.size):Array.foldl (fun cs y=>cs.setIfInBounds (o+y.snd) y.fst) C v.zipIdx 0 n=(Zz C.toList o v.toList).toArray:=by
 have e:n=v.zipIdx.size:=by simp [hv]
 subst e
 rw [←Array.foldl_toList,Array.toList_zipIdx]
 have:=Qft (o:=o) v.toList C 0 (by simpa using h)
 simpa using this
theorem Qeh (C v:Array Value) (n:Nat) (hv:v.size=n) (h:C.size=n):Array.foldl (fun cs y=>cs.setIfInBounds y.snd y.fst) C v.zipIdx 0 n=v:=by
 have:=Qef C v 0 n hv (by omega)
 simp only [Nat.zero_add] at this
 rw [this,splice_all _ _ (by simp;omega),Array.toArray_toList]
theorem Sl.cell {w:World} {b o n:Nat} {xs:List Value} (h:Sl w 1 (some ⟨b,o,none⟩) n xs) {i:Nat} (hi:i<n):
 ∃c t f,w.heap[b]? =some (.cells c t f)∧c[o+i]? =xs[i]?:=by
 obtain ⟨h1,h2⟩:=h
 rcases h2 with h2|⟨b',o',c,t,f,he,hb,hx⟩
 ·omega
 ·injection he with he;injection he with h3 h4;subst h3;subst h4
  refine ⟨c,t,f,hb,?_⟩
  rw [←hx,Nat.mul_one,List.getElem?_take_of_lt hi,List.getElem?_drop,Array.getElem?_toList]
theorem Sl.elem {w:World} {size b o n:Nat} {xs ys:List Value} (h0:0<size) (h:Sl w size (some ⟨b,o,none⟩) n xs) {i:Nat} (hi:i<n) (hy:(xs.drop (i*size)).take size=ys):
 ∃c t f,w.heap[b]? =some (.cells c t f)∧(∀d,d<size→c[o+i*size+d]? =ys[d]?)∧∀d m,d+m≤size→Qbo (some (.cells c t f)) (o+i*size+d) m=true∧XF (some (.cells c t f)) (o+i*size+d) m=((ys.drop d).take m).toArray:=by
 obtain ⟨h1,h2⟩:=h
 rcases h2 with h2|⟨b',o',c,t,f,he,hb,hx⟩
 ·omega
 ·injection he with he;injection he with h3 h4;subst h3;subst h4;subst hy
  have hle:(i+1)*size≤n*size:=Nat.mul_le_mul_right _ (by omega)
  rw [Nat.add_mul] at hle
  have hlen:=congrArg List.length hx
  simp only [List.length_take,List.length_drop,Array.length_toList] at hlen
  refine ⟨c,t,f,hb,fun d hd=>?_,fun d m hdm=>⟨?_,?_⟩⟩
  ·rw [←hx,List.getElem?_take_of_lt hd,List.getElem?_drop,List.getElem?_take_of_lt (by omega),List.getElem?_drop,Array.getElem?_toList]
   congr 1;omega
  ·rw [Qi]
   exact decide_eq_true (show o+i*size+d+m≤c.size by omega)
  ·rw [Xi,←hx]
   simp only [List.drop_take,List.take_take,List.drop_drop]
   have e1:min m (min (size-d) (n*size-i*size-d))=m:=by omega
   have e2:min (min m (size-d)) (n*size-i*size-d)=m:=by omega
   first
    |rw [e1]
    |rw [e2]
    |skip
   congr 2
   all_goals (try omega)
end
end Go.Proofs.YtlidfghgjjffaaaGreatDoor
