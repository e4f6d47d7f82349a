/- Texts of the walk, one behind the other: Wpqm Wpq Wpqa Wpqb Wpqc Wpqr Wpqs Wpqt Wpqw Wpqg. No condition. -/
import Derived.Test.YtadeoflkppiflaaGreatDoorSaa
import Derived.Test.YtadeoflkppiflaaGreatDoorSab
import Derived.Test.YtadeoflkppiflaaGreatDoorSac
import Derived.IntWalk
namespace Go.Proofs.YtadeoflkppiflaaGreatDoor
open Go.RowKit
set_option linter.unusedVariables false
section
structure Ent where
 pos:Nat
 l:List Int
 h:l.length=8
def Ent.enc (e:Ent):List Value:=.int .i64 e.pos::e.l.map (Value.int .u64)
theorem Ent.len (e:Ent):(Ent.enc e).length=9:=by simp [Ent.enc,e.h]
theorem Ent.one (e:Ent):∀v∈Ent.enc e,v.oneCell'=true:=by
 intro v hv
 simp only [Ent.enc,List.mem_cons,List.mem_map] at hv
 rcases hv with rfl|⟨x,_,rfl⟩<;>rfl
def entZ:Value:=.agg (.int .i64 0::List.replicate 8 (.int .u64 0)).toArray
theorem Qg1:entZ.cells.size=9:=rfl
theorem entZ_one:∀v∈entZ.cells,v.oneCell'=true:=by intro v hv;simp [entZ,Value.cells] at hv;rcases hv with rfl|rfl<;>rfl
def entc (e:Ent):Array Value:=(Ent.enc e).toArray
theorem XB (e:Ent):(entc e).size=9:=by simp [entc,Ent.len]
theorem J4 (e:Ent):Qa1 (entc e):=Qt _ (List.all_eq_true.2 (Ent.one e))
theorem J3 (e:Ent):(entc e)[0]? =some (.int .i64 e.pos):=by simp [entc,Ent.enc]
theorem Jx (e:Ent) (t:TypeId) (f:Nat×Nat):Xq (some (.cells (entc e) t f)) 1 8=vs e.l:=by
 rw [XF]
 have:e.l.length=8:=e.h
 simp [entc,Ent.enc,vs,List.take_of_length_le,this]
theorem Qb0 (e:Ent) (t:TypeId) (f:Nat×Nat):JM (some (.cells (entc e) t f)) 1 8=true:=by
 rw [Qj,XB];exact decide_eq_true (show 1+8≤9 by omega)
theorem J2 (e:Ent):Array.foldl (fun cs y=>cs.setIfInBounds (1+y.snd) y.fst) #[.int .i64 e.pos,.int .u64 0,.int .u64 0,.int .u64 0,.int .u64 0,.int .u64 0,.int .u64 0,.int .u64 0,.int .u64 0] (vs e.l).zipIdx 0 8=entc e:=by
 rw [J1 _ _ 1 8 (by rw [Qw,e.h]) (by simp)]
 have:e.l.length=8:=e.h
 simp [Z9,vs,entc,Ent.enc,this]
theorem Jw (C:Array Value) (e:Ent) (h:C.size=9):Array.foldl (fun cs y=>cs.setIfInBounds y.snd y.fst) C (entc e).zipIdx 0 9=entc e:=Qcy _ _ _ (XB e) h
theorem YS {α:Type} (xs l:List α) (o j:Nat) (h:o+l.length≤xs.length):(Z9 xs o l)[j]? =if j<o then xs[j]? else if j<o+l.length then l[j-o]? else xs[j]?:=by
 unfold Z9
 have e1:(xs.take o).length=o:=by simp;omega
 split
 ·rename_i h1
  rw [List.append_assoc,List.getElem?_append_left (by omega),List.getElem?_take_of_lt h1]
 ·split
  ·rename_i h1 h2
   rw [List.append_assoc,List.getElem?_append_right (by omega),e1,List.getElem?_append_left (by omega)]
  ·rename_i h1 h2
   rw [List.getElem?_append_right (by simp;omega),List.getElem?_drop]
   congr 1
   simp;omega
theorem lnPut_comm (xs a b:List Int) (i j:Nat) (hij:i≠j) (ha:a.length=8) (hb:b.length=8) (hi:Fit (i*8) 8 xs.length) (hj:Fit (j*8) 8 xs.length):YL (YL xs i a) j b=YL (YL xs j b) i a:=by
 have h1:=hi.out
 have h2:=hj.out
 have l1:=Yn xs i a hi ha
 have l2:=Yn xs j b hj hb
 apply List.ext_getElem?
 intro k
 unfold YL at *
 rw [YS _ _ _ _ (by rw [l1];omega),YS _ _ _ _ (by omega),YS _ _ _ _ (by rw [l2];omega),YS _ _ _ _ (by omega)]
 rw [ha,hb]
 rcases Nat.lt_or_gt_of_ne hij with h|h<;>(repeat' split)<;>first |rfl|omega
def over (xs:List Int) (es:List Ent):List Int:=es.foldl (fun xs e=>YL xs e.pos e.l) xs
theorem over_nil (xs:List Int):over xs []=xs:=rfl
theorem Qbw (xs:List Int) (a b:List Ent):over xs (a++b)=over (over xs a) b:=by simp [over]
theorem Qbd (xs:List Int) (e:Ent) (b:List Ent):over xs (e::b)=over (YL xs e.pos e.l) b:=rfl
theorem Qd3 (xs:List Int) (a:List Ent) (e:Ent):over xs (a++[e])=YL (over xs a) e.pos e.l:=by rw [Qbw];rfl
def Lie (n:Nat) (es:List Ent):Prop:=∀e∈es,e.pos<n
theorem Lie.nil (n:Nat):Lie n []:=fun _ h=>by cases h
theorem Lie.snoc {n:Nat} {es:List Ent} (h:Lie n es) {e:Ent} (he:e.pos<n):Lie n (es++[e]):=fun x hx=>by
 rcases List.mem_append.1 hx with h1|h1
 ·exact h x h1
 ·rw [Vs h1];exact he
theorem Lie.sub {n:Nat} {es es':List Ent} (h:Lie n es) (hs:∀e∈es',e∈es):Lie n es':=fun x hx=>h x (hs x hx)
theorem Lie.get {n:Nat} {es:List Ent} (h:Lie n es) {k:Nat} {e:Ent} (he:es[k]? =some e):e.pos<n:=h e (List.mem_of_getElem? he)
theorem Yu {n i:Nat} {xs:List Int} (hx:xs.length=n*8) (hi:i<n):Fit (i*8) 8 xs.length:=by rw [hx];unfold Fit;omega
theorem Qaf {n:Nat}:∀(es:List Ent) (xs:List Int),xs.length=n*8→Lie n es→(over xs es).length=n*8
 |[],xs,hx,_=>hx
 |e::es,xs,hx,h=>by
  rw [Qbd]
  exact Qaf es _ (by rw [Yn _ _ _ (Yu hx (h e (by simp))) e.h,hx]) (h.sub (by intro x hx;simp [hx]))
theorem Qar {n i:Nat}:∀(es:List Ent) (xs:List Int),xs.length=n*8→Lie n es→(∀e∈es,e.pos≠i)→ln (over xs es) i=ln xs i
 |[],xs,_,_,_=>rfl
 |e::es,xs,hx,h,hn=>by
  have hf:=Yu hx (h e (by simp))
  rw [Qbd,Qar es _ (by rw [Yn _ _ _ hf e.h,hx]) (h.sub (by intro x hx;simp [hx])) (fun x hx=>hn x (by simp [hx])),Qcg _ _ _ _ hf e.h (hn e (by simp))]
theorem ln_over_last {n:Nat} (es post:List Ent) (e:Ent) (xs:List Int) (hx:xs.length=n*8) (h:Lie n (es++e::post)) (hp:∀x∈post,x.pos≠e.pos):ln (over xs (es++e::post)) e.pos=e.l:=by
 have h1:Lie n es:=h.sub (by intro x hx;simp [hx])
 have hl:=Qaf es xs hx h1
 have hf:=Yu hl (h e (by simp))
 rw [Qbw,Qbd,Qar post _ (by rw [Yn _ _ _ hf e.h,hl]) (h.sub (by intro x hx;simp [hx])) hp,Qdi _ _ _ hf e.h]
theorem over_put {n:Nat}:∀(es:List Ent) (xs l:List Int) (i:Nat),xs.length=n*8→Lie n es→i<n→l.length=8→(∀x∈es,x.pos≠i)→over (YL xs i l) es=YL (over xs es) i l
 |[],xs,l,i,_,_,_,_,_=>rfl
 |e::es,xs,l,i,hx,h,hi,hl,hn=>by
  have hf:=Yu hx (h e (by simp))
  have hfi:=Yu hx hi
  rw [Qbd,Qbd,lnPut_comm xs l e.l i e.pos (fun h2=>hn e (by simp) h2.symm) hl e.h hfi hf]
  exact over_put es _ l i (by rw [Yn _ _ _ hf e.h,hx]) (h.sub (by intro x hx;simp [hx])) hi hl (fun x hx=>hn x (by simp [hx]))
theorem cut_at {α:Type} {es:List α} {k:Nat} {e:α} (he:es[k]? =some e):es=es.take k++e::es.drop (k+1):=by
 obtain ⟨hk,rfl⟩:=Vg he
 rw [←List.drop_eq_getElem_cons hk,List.take_append_drop]
theorem erase_at {α:Type} (es:List α) (k:Nat):es.eraseIdx k=es.take k++es.drop (k+1):=List.eraseIdx_eq_take_drop_succ es k
theorem over_drain {n:Nat} {es:List Ent} {k:Nat} {e:Ent} (xs:List Int) (hx:xs.length=n*8) (h:Lie n es) (he:es[k]? =some e) (hk:∀x∈es.take k,x.pos≠e.pos):over (YL xs e.pos e.l) (es.eraseIdx k)=over xs es:=by
 have hc:=cut_at he
 have h1:Lie n (es.take k):=h.sub (fun x hx=>List.mem_of_mem_take hx)
 have e1:over xs es=over (YL (over xs (es.take k)) e.pos e.l) (es.drop (k+1)):=by
  conv=>lhs;rw [hc]
  rw [Qbw,Qbd]
 rw [e1,erase_at,Qbw,over_put _ _ _ _ hx h1 (h.get he) e.h hk]
theorem ln_over_at {n:Nat} {es:List Ent} {k:Nat} {e:Ent} (xs:List Int) (hx:xs.length=n*8) (h:Lie n es) (he:es[k]? =some e) (hk:∀x∈es.drop (k+1),x.pos≠e.pos):ln (over xs es) e.pos=e.l:=by
 have hc:=cut_at he
 rw [hc]
 exact ln_over_last _ _ _ _ hx (by rw [←hc];exact h) hk
theorem drop_all {α:Type} {p:α→Prop} {es:List α} {k:Nat} {e:α} (he:es[k]? =some e) (h:p e) (hd:∀x∈es.drop (k+1),p x):∀x∈es.drop k,p x:=by
 obtain ⟨hk,rfl⟩:=Vg he
 rw [List.drop_eq_getElem_cons hk]
 intro x hx
 rcases List.mem_cons.1 hx with rfl|hx
 ·exact h
 ·exact hd x hx
theorem Qcs {α:Type} {p:α→Prop} {es:List α} {k:Nat} {e:α} (he:es[k]? =some e) (h:p e) (hd:∀x∈es.take k,p x):∀x∈es.take (k+1),p x:=by
 obtain ⟨hk,rfl⟩:=Vg he
 rw [List.take_succ_eq_append_getElem hk]
 intro x hx
 rcases List.mem_append.1 hx with hx|hx
 ·exact hd x hx
 ·rw [Vs hx];exact h
section
variable {es:List Ent} {k:Nat} {e:Ent} (h:es[k]? =some e) (r:List Value) (t:TypeId) (f:Nat×Nat)
include h
theorem Qe5:Xq (some (.cells (sq Ent.enc es r) t f)) (k*9) 9=entc e:=by
 have:=Qba Ent.len h r t f 0 9 (by omega)
 rw [Nat.add_zero] at this
 rw [this]
 simp [entc,Ent.len,List.take_of_length_le]
theorem Qbl:JM (some (.cells (sq Ent.enc es r) t f)) (k*9) 9=true:=Qdx Ent.len (Vg h).1 r t f 0 9 (by omega)
theorem Qax:(sq Ent.enc es r)[k*9]? =some (.int .i64 e.pos):=by
 have:=YC Ent.len h r 0 (by omega)
 rw [Nat.add_zero] at this
 rw [this];rfl
theorem Qf0:Xq (some (.cells (sq Ent.enc es r) t f)) (k*9+1) 8=vs e.l:=by
 rw [Qba Ent.len h r t f 1 8 (by omega)]
 have:e.l.length=8:=e.h
 simp [Ent.enc,vs,List.take_of_length_le,this]
theorem Qc1:JM (some (.cells (sq Ent.enc es r) t f)) (k*9+1) 8=true:=Qdx Ent.len (Vg h).1 r t f 1 8 (by omega)
end
def is (xs:List Int):Array Value:=(xs.map (Value.int .i64)).toArray
theorem is_size (xs:List Int):(is xs).size=xs.length:=by simp [is]
theorem is_set (xs:List Int) (i:Nat) (v:Int):(is xs).setIfInBounds i (.int .i64 v)=is (xs.set i v):=by simp [is,List.map_set]
theorem is_sl {w:World} {b n:Nat} {t:TypeId} {f:Nat×Nat} {xs:List Int} (h:w.heap[b]? =some (.cells (is xs) t f)) (hn:xs.length=n):Sl w 1 (some ⟨b,0,none⟩) n (xs.map (Value.int .i64)):=
 ⟨by simp [hn],.inr ⟨b,0,_,t,f,rfl,h,by simp [is,List.take_of_length_le,hn]⟩⟩
theorem made_is (n:Nat):madeCells #[.int .i64 0] n=is (List.replicate n 0):=by
 apply Array.ext
 ·simp [madeCells,is]
 ·intro k h1 h2
  have hk:k % 1=0:=Nat.mod_one k
  simp [madeCells,is,hk]
def Qad (es:List Ent) (k:Nat):List Int:=(es.take k).map (fun e=>(e.pos:Int))++List.replicate (es.length-k) 0
def poss (es:List Ent):List Int:=es.map (fun e=>(e.pos:Int))
theorem YO (es:List Ent):(poss es).length=es.length:=by simp [poss]
theorem posFill_zero (es:List Ent):Qad es 0=List.replicate es.length 0:=by simp [Qad]
theorem posFill_all (es:List Ent):Qad es es.length=poss es:=by simp [Qad,poss]
theorem posFill_length (es:List Ent) (k:Nat) (h:k≤es.length):(Qad es k).length=es.length:=by simp [Qad];omega
theorem posFill_succ {es:List Ent} {k:Nat} {e:Ent} (h:es[k]? =some e):(Qad es k).set k e.pos=Qad es (k+1):=by
 obtain ⟨hk,rfl⟩:=Vg h
 unfold Qad
 have e1:((es.take k).map (fun e=>(e.pos:Int))).length=k:=by simp;omega
 rw [List.set_append_right _ _ (by omega),e1,Nat.sub_self,List.take_succ_eq_append_getElem hk,List.map_append]
 obtain ⟨m,hm⟩:∃m,es.length-k=m+1:=⟨es.length-k-1,by omega⟩
 rw [hm,show es.length-(k+1)=m by omega,List.replicate_succ]
 simp
def ienc (x:Int):List Value:=[.int .i64 x]
theorem ienc_len (x:Int):(ienc x).length=1:=rfl
theorem ienc_one (x:Int):∀v∈ienc x,v.oneCell'=true:=by intro v hv;rw [Vs hv];rfl
theorem cat_ienc (xs:List Int):cat ienc xs=xs.map (Value.int .i64):=by
 induction xs with
 |nil=>rfl
 |cons x xs ih=>rw [Yw,ih];rfl
structure Ln where
 val:List Int
 property:val.length=8
def lenc (l:Ln):List Value:=l.val.map (Value.int .u64)
theorem lenc_len (l:Ln):(lenc l).length=8:=by simp [lenc,l.property]
theorem lenc_one (l:Ln):∀v∈lenc l,v.oneCell'=true:=by
 intro v hv
 simp only [lenc,List.mem_map] at hv
 obtain ⟨x,_,rfl⟩:=hv;rfl
def lnOf (X:List Int) (i:Nat):Ln:=if h:(ln X i).length=8 then ⟨ln X i,h⟩ else ⟨[0,0,0,0,0,0,0,0],rfl⟩
theorem lnOf_val {n:Nat} (X:List Int) (i:Nat) (hX:X.length=n*8) (hi:i<n):(lnOf X i).val=ln X i:=by
 have:=Qah X i (Yu hX hi)
 unfold lnOf
 rw [dif_pos this]
def lns (X:List Int) (k:Nat):List Ln:=(List.range k).map (lnOf X)
theorem Qez (X:List Int) (k:Nat):(lns X k).length=k:=by simp [lns]
theorem lns_succ (X:List Int) (k:Nat):lns X k++[lnOf X k]=lns X (k+1):=by simp [lns,List.range_succ]
theorem cat_lns {n:Nat} (X:List Int) (hX:X.length=n*8):∀k,k≤n→cat lenc (lns X k)=(X.take (k*8)).map (Value.int .u64)
 |0,_=>by simp [lns,cat]
 |k+1,h=>by
  rw [←lns_succ,YH,cat_lns X hX k (by omega),JV,show (k+1)*8=k*8+8 by omega,List.take_add,List.map_append]
  congr 1
  unfold lenc
  rw [lnOf_val X k hX (by omega)]
  rfl
theorem cat_lns_all {n:Nat} (X:List Int) (hX:X.length=n*8):cat lenc (lns X n)=X.map (Value.int .u64):=by
 rw [cat_lns X hX n (Nat.le_refl _),List.take_of_length_le (by omega)]
end
section
theorem Qbp:Wide Tryz.prog 203 9:=⟨⟨_,Tryz.underlying203,by rfl⟩,by kernel_rfl⟩
theorem Qbx (x:Value):Instr.loadAt 203 x=Qc8 203 9 x:=rfl
theorem JX (x y:Value):Instr.storeAt 203 x y=JW 203 9 x y:=rfl
attribute [local go_sem ↓] QA QQ QH Q8 QS QC Za QN Qbx JX Qm Ql heap_alloc Qo heap_setCell Qb ZF J3
attribute [local go_sem] Qc Qa Qd Qj Qf Qe Qh Qi Qw ZE QZ Qbp QO QG Q6 Q0 Q5 Zi Q9 QM QB QI Zj Q7 Qz QP Qt Qk Qs Qr Qq Qp Qg Zb Ze lit8 XB J4 Jx Qb0 J2 Jw
attribute [local simp ↓] Qm Ql heap_alloc Qo heap_setCell Qb
attribute [local simp] Qc Qa Qd Qj Qf Qe Qh Qi Qw QB Qk Qs Qr Qq Qp Qg XB
theorem ent_info:(Tryz.prog.info? 203).map (fun i=>(i.zero,i.size,i.bytes))=some (some entZ,9,72):=by kernel_rfl
theorem eltEnt:Elt Tryz.prog 162 203 9 72 entZ Ent.enc where
 slice:=Tryz.underlying162
 info:=ent_info
 zero:=Qg1
 zone:=entZ_one
 pos:=by omega
 len:=Ent.len
 one:=Ent.one
def Que (w:World) (q be g n room:Nat) (es:List Ent):Prop:=
 (∃A cap,w.heap[q]? =some (.cells #[.pointer (some ⟨g,0,none⟩),.int .i64 n,.int .i64 room,.slice A es.length cap] 164 (0,0))∧Vec 9 203 Ent.enc w q be A cap es)∧
  es.length≤room∧1≤room∧room≤16∧2≤n∧n≤64∧Lie n es
theorem Que.keep {w w':World} {q be g n room:Nat} {es:List Ent} {l:List Nat} (h:Que w q be g n room es) (hc:Chg l w w') (hq:q∉l) (hb:be∉l):Que w' q be g n room es:=by
 obtain ⟨⟨A,cap,h1,h2⟩,h3⟩:=h
 exact ⟨⟨A,cap,hc.keep h1 hq,h2.keep hc hb⟩,h3⟩
theorem Que.oldq {w:World} {q be g n room:Nat} {es:List Ent} (h:Que w q be g n room es):Old w q:=by
 obtain ⟨⟨A,cap,h1,h2⟩,h3⟩:=h
 exact old h1
theorem Que.olde {w:World} {q be g n room:Nat} {es:List Ent} (h:Que w q be g n room es):Old w be:=by
 obtain ⟨⟨A,cap,h1,h2⟩,h3⟩:=h
 exact h2.old (old h1)
def MadeQue (w0:World) (g n room:Nat) (e:Ending) (w':World):Prop:=
 ∃q,e=.returned (.tuple #[.pointer (some ⟨q,0,none⟩),.int .i64 0])∧w0.heap.size≤q∧Chg [] w0 w'∧Que w' q q g n room []
theorem qnew_ok (g b n v room:Nat) (xs:List Int) (w:World) (hd:Dev w g b n v xs) (h1:1≤room) (h2:room≤16):Calls Tryz.prog 42 #[.pointer (some ⟨g,0,none⟩),.int .i64 room] w (MadeQue w g n room):=by
 have HD:=Vh hd
 have t1:decide ((room:Int)<1)=false:=by simp;omega
 have t2:decide ((16:Int)<room)=false:=by simp;omega
 clear hd
 go_enter Tryz.func42,Tryz.ntmps42
 go_wp2_with fail
 refine (image_ok g b n v xs _ HD.out).mono ?_
 rintro e w' ⟨g',cap,r',rfl,a1,a2,a3,a4⟩
 clear a1
 go_wp2_with fail
 go_ret2
 refine ⟨w'.heap.size,rfl,a4.size,a4.alloc _,⟨none,0,by simp,Vec.nil _ _ _ _ _⟩,by simp,h1,h2,HD.out.2.2.2.1,HD.out.2.2.2.2.1,Lie.nil n⟩
theorem push_out (q be g n room:Nat) (es:List Ent) (i:Int) (l:List Int) (w:World) (hq:Que w q be g n room es) (h:¬(0≤i∧i<n)):Calls Tryz.prog 136 #[.pointer (some ⟨q,0,none⟩),.int .i64 i,.agg (vs l)] w fun e w'=>e=.returned (.int .i64 12)∧Chg [] w w':=by
 obtain ⟨⟨A,cap,hq,_⟩,_⟩:=hq
 have oq:=old hq
 by_cases h1:i<0
 ·have t1:decide (i<0)=true:=by simpa using h1
  clear h h1
  go_enter Tryz.func136,Tryz.ntmps136
  go_wp2
  exact Tz70
 ·have t1:decide (i<0)=false:=by simpa using h1
  have t2:decide ((n:Int)≤i)=true:=by simp;omega
  clear h h1
  go_enter Tryz.func136,Tryz.ntmps136
  go_wp2
  exact Tz70
theorem push_full (q be g n room:Nat) (es:List Ent) (i:Nat) (l:List Int) (w:World) (hq:Que w q be g n room es) (hi:i<n) (hr:room≤es.length):Calls Tryz.prog 136 #[.pointer (some ⟨q,0,none⟩),.int .i64 i,.agg (vs l)] w fun e w'=>e=.returned (.int .i64 13)∧Chg [] w w':=by
 obtain ⟨⟨A,cap,hq,_⟩,_⟩:=hq
 have oq:=old hq
 have t1:decide ((i:Int)<0)=false:=by simp
 have t2:decide (n≤i)=false:=by simp;omega
 have t3:decide (room≤es.length)=true:=by simpa using hr
 clear hr
 go_enter Tryz.func136,Tryz.ntmps136
 go_wp2
 go_quiet (fail)
 go_wp2
 go_ret
 exact ⟨rfl,((Chg.refl _ _).alloc _).drewN _⟩
end
section
attribute [local go_sem ↓] QA QQ QH Q8 QS QC Za QN Qbx JX Qm Ql heap_alloc Qo heap_setCell Qb ZF J3
attribute [local go_sem] Qc Qa Qd Qj Qf Qe Qh Qi Qw ZE QZ Qbp QO QG Q6 Q0 Q5 Zi Q9 QM QB QI Zj Q7 Qz QP Qt Qk Qs Qr Qq Qp Qg Zb Ze lit8 XB J4 Jx Qb0 J2 Jw
attribute [local simp ↓] Qm Ql heap_alloc Qo heap_setCell Qb
attribute [local simp] Qc Qa Qd Qj Qf Qe Qh Qi Qw QB Qk Qs Qr Qq Qp Qg XB
def QPut (w:World) (q be g n room:Nat) (es:List Ent) (v:Value) (e:Ending) (w':World):Prop:=
 e=.returned v∧∃be',(be'=be∨w.heap.size≤be')∧Chg [q,be] w w'∧Que w' q be' g n room es
theorem ent_slice (w:World) (e:Ent):Sl ((w.alloc (.cells (entc e) 203)).drew) 9 (some ⟨w.heap.size,0,none⟩) 1 (cat Ent.enc [e]):=
 ⟨by rw [Zo Ent.len];rfl,.inr ⟨w.heap.size,0,entc e,203,(0,0),rfl,by simp,by rw [JV];simp [entc,Ent.len,List.take_of_length_le]⟩⟩
theorem push_ok (q be g n room:Nat) (es:List Ent) (x:Ent) (w:World) (hq:Que w q be g n room es) (hi:x.pos<n) (hr:es.length<room):
 Calls Tryz.prog 136 #[.pointer (some ⟨q,0,none⟩),.int .i64 x.pos,.agg (vs x.l)] w (QPut w q be g n room (es++[x]) (.int .i64 0)):=by
 have HQ:=Vh hq
 have HL:=Vh x.h
 obtain ⟨⟨A,cap,hq,hv⟩,_⟩:=hq
 have HV:=Vh hv
 have oq:=old hq
 have t1:decide ((x.pos:Int)<0)=false:=by simp
 have t2:decide (n≤x.pos)=false:=by simp;omega
 have t3:decide (room≤es.length)=false:=by simpa using hr
 have HR:=Vh hr
 have hl8:=x.h
 clear hr hv
 go_enter Tryz.func136,Tryz.ntmps136
 go_wp2
 go_quiet (fail)
 go_wp2_with fail
 have hbox:((w.alloc (.cells (vs x.l) 36)).drewN nq).heap[w.heap.size]? =some (.cells (vs x.l) 36 (0,0)):=by simp
 have c1:=((Chg.refl [] w).alloc (.cells (vs x.l) 36)).drewN nq
 have HZ:=Vh (show ((w.alloc (.cells (vs x.l) 36)).drewN nq).heap.size=w.heap.size+1 by simp)
 generalize (w.alloc (.cells (vs x.l) 36)).drewN nq=w1 at hbox c1 HZ ⊢
 have hq1:=c1.keep hq (by simp)
 have hv1:=HV.out.keep c1 (by simp)
 have oq1:=old hq1
 have obox:=old hbox
 have HC1:=Vh c1
 have ca:=((Chg.refl [] w1).alloc (.cells (entc x) 203)).drew
 obtain ⟨be',cap',A',w2,happ,hv2,hbe,hc2,hqq⟩:=(hv1.keep ca (by simp)).app (ty:=162) eltEnt (oq1.chg ca) (ent_slice w1 x) (c:=1) rfl (by have:=HR.out;have:=HQ.out.2.2.2.1;omega) (by have:=HR.out;have:=HQ.out.2.2.2.1;unfold maxLen;omega)
 have hq2:w2.heap[q]? =some (.cells #[.pointer (some ⟨g,0,none⟩),.int .i64 n,.int .i64 room,.slice A es.length cap] 164 (0,0)):=by rw [hqq];exact ca.keep hq1 (by simp)
 have HV2:=Vh hv2
 have HB:=Vh hbe
 have HC2:=Vh hc2
 have HCA:=Vh ca
 clear hv1 hv2 hqq hbe hc2 ca c1
 go_region
 all_goals
  go_wp2
  go_ret
  refine ⟨rfl,be',?_,?_,⟨A',cap',?_,?_⟩,?_,HQ.out.2.2.1,HQ.out.2.2.2.1,HQ.out.2.2.2.2.1,HQ.out.2.2.2.2.2.1,HQ.out.2.2.2.2.2.2.snoc hi⟩
  ·have h1:=HB.out
   have h2:=HZ.out
   have h3:((w1.alloc (.cells (entc x) 203)).drew).heap.size=w1.heap.size+1:=by simp
   omega
  ·exact (((HC1.out.trans HCA.out).mono (l':=[q,be]) (by simp)).trans' HC2.out (by simp)).setCell _ _ _ (.inl (by simp))
  ·simp [hq2]
  ·exact HV2.out.keep ((Chg.refl [q] w2).setCell _ _ _ (.inl (by simp))) (by have:=(HV2.out.there (by simp)).1;simpa using this)
  ·have:=HR.out;simp;omega
theorem run_make_ints (w:World) (n:Nat) (hn:n≤100000):mkR Tryz.prog 59 (.int .i64 n) (.int .i64 n) w=.ok (.slice (some ⟨w.heap.size,0,none⟩) n n) (w.alloc (.cells (is (List.replicate n 0)) 3)):=by
 obtain ⟨i0,hi0,hz0,hz1,hz2⟩:=info_parts (show (Tryz.prog.info? 3).map (fun i=>(i.zero,i.size,i.bytes))=some (some (.int .i64 0),1,8) by kernel_rfl)
 have:=run_make (P:=Tryz.prog) w 59 3 i0 _ Tryz.underlying59 hi0 hz0 .i64 .i64 n n (by omega) (by omega) (by rw [hz2];omega) (by omega)
 simp only [Int.toNat_natCast,hz1,Nat.mul_one] at this
 rw [←made_is]
 exact this
def WTold (w0:World) (xs:List Int) (e:Ending) (w':World):Prop:=∃A c,e=.returned (.slice A xs.length c)∧Sl w' 1 A xs.length (xs.map (Value.int .i64))∧Chg [] w0 w'
theorem qlines_ok (q be g n room:Nat) (es:List Ent) (w:World) (hq:Que w q be g n room es):Calls Tryz.prog 79 #[.pointer (some ⟨q,0,none⟩)] w (WTold w (poss es)):=by
 have HQ:=Vh hq
 have hle:es.length≤16:=by have:=hq.2.1;have:=hq.2.2.2.1;omega
 obtain ⟨⟨A,cap,hq,hv⟩,_⟩:=hq
 have HV:=Vh hv
 have oq:=old hq
 have hmk:=run_make_ints w es.length (by omega)
 have c1:=(Chg.refl [] w).alloc (.cells (is (List.replicate es.length 0)) 3)
 have hb1:(w.alloc (.cells (is (List.replicate es.length 0)) 3)).heap[w.heap.size]? =some (.cells (is (List.replicate es.length 0)) 3 (0,0)):=by simp
 have HZ:=Vh (show (w.alloc (.cells (is (List.replicate es.length 0)) 3)).heap.size=w.heap.size+1 by simp)
 generalize w.alloc (.cells (is (List.replicate es.length 0)) 3)=w1 at hmk c1 hb1 HZ
 have hq1:=c1.keep hq (by simp)
 have HC1:=Vh c1
 have HB1:=Vh hb1
 have HV1:=Vh (HV.out.keep c1 (by simp))
 have HO:=Vh (HQ.out.olde.lt)
 clear hv c1 hb1
 go_enter Tryz.func79,Tryz.ntmps79
 go_wp2
 go_loopw [19] (fun i wr=>∃k:Nat,k≤es.length∧i=.int .i64 k∧Chg [w.heap.size] w1 wr∧wr.heap[w.heap.size]? =some (.cells (is (Qad es k)) 3 (0,0))) (fun i _=>es.length-(intOf i).toNat)
 case atStart=>exact ⟨0,by omega,rfl,Chg.refl _ _,by rw [posFill_zero];exact HB1.out⟩
 case round=>
  obtain ⟨k,hk,rfl,hc,hb⟩:=hrel
  by_cases hlt:k<es.length
  ·obtain ⟨e,he⟩:∃e,es[k]? =some e:=⟨es[k],List.getElem?_eq_getElem hlt⟩
   obtain ⟨_,rfl,r,hbe,_⟩:=HV1.out.there (by omega)
   have hbr:=hc.keep hbe (by have:=HO.out;simp;omega)
   have ob:=old hb
   have obe:=old hbr
   have g1:(k:Int)<(es.length:Int):=by omega
   have g0:(0:Int)≤(k:Int):=by omega
   have rp:=Qe5 he r 203 (0,0)
   have ri:=Qbl he r 203 (0,0)
   have hs:=Vh (posFill_succ he)
   have hln:=posFill_length es k hk
   obtain ⟨was,e1⟩:∃v,(is (Qad es k))[k]? =some v:=⟨_,Array.getElem?_eq_getElem (by rw [is_size,hln];exact hlt)⟩
   have HLN:=Vh hln
   have HE:=Vh he
   clear hbe hln he
   go_wp2
   go_roundw
   case rel=>exact ⟨k+1,by omega,by go_num,(hc.alloc _).setCell _ _ _ (.inl (by simp)),by rw [←hs.out,←is_set];simp [*]⟩
   case measure=>simp [intOf];omega
  ·have:k=es.length:=by omega
   subst this
   go_wp2
   go_ret
   rw [posFill_all] at hb
   have:=is_sl hb rfl
   rw [YO] at this
   exact ⟨some ⟨w.heap.size,0,none⟩,es.length,by rw [YO];rfl,by rw [YO];exact this,HC1.out.trans' hc (by simp)⟩
end
section
attribute [local go_sem ↓] QA QQ QH Q8 QS QC Za QN Qbx JX Qm Ql heap_alloc Qo heap_setCell Qb ZF J3
attribute [local go_sem] Qc Qa Qd Qj Qf Qe Qh Qi Qw ZE QZ Qbp QO QG Q6 Q0 Q5 Zi Q9 QM QB QI Zj Q7 Qz QP Qt Qk Qs Qr Qq Qp Qg Zb Ze lit8 XB J4 Jx Qb0 J2 Jw
attribute [local simp ↓] Qm Ql heap_alloc Qo heap_setCell Qb
attribute [local simp] Qc Qa Qd Qj Qf Qe Qh Qi Qw QB Qk Qs Qr Qq Qp Qg XB
theorem qimage_ok (q be g b n v room:Nat) (es:List Ent) (xs:List Int) (w:World) (hq:Que w q be g n room es) (hd:Dev w g b n v xs):Calls Tryz.prog 73 #[.pointer (some ⟨q,0,none⟩)] w (Qf1 w n (over xs es)):=by
 have HQ:=Vh hq
 have HD:=Vh hd
 have hle:es.length≤16:=by have:=hq.2.1;have:=hq.2.2.2.1;omega
 obtain ⟨⟨A,cap,hq,hv⟩,_,_,_,_,hn64,hlie⟩:=hq
 have HV:=Vh hv
 have HO:=Vh (HQ.out.olde.lt)
 have HLIE:=Vh hlie
 clear hv hd hlie
 go_enter Tryz.func73,Tryz.ntmps73
 go_wp2_with fail
 refine (image_ok g b n v xs _ HD.out).mono ?_
 rintro e w1 ⟨g',cap',r',rfl,a1,a2,a3,a4⟩
 have hq1:=a4.keep hq (by simp)
 have HV1:=Vh (HV.out.keep a4 (by simp))
 have A1:=Vh a1
 have A2:=Vh a2
 have A4:=Vh a4
 have hcap:(n:Int)≤(cap':Int):=by omega
 have HX:=Vh HD.out.2.2.1
 clear a1 a2 a4 a3
 go_wp2
 go_loopw [18] (fun i wr=>∃k:Nat,k≤es.length∧i=.int .i64 k∧Chg [g'] w1 wr∧wr.heap[g']? =some (.cells (bk (over xs (es.take k)) r') 36 (0,0))) (fun i _=>es.length-(intOf i).toNat)
 case atStart=>exact ⟨0,by omega,rfl,Chg.refl _ _,by rw [List.take_zero,over_nil];exact A1.out⟩
 case round=>
  obtain ⟨k,hk,rfl,hc,hb⟩:=hrel
  by_cases hlt:k<es.length
  ·obtain ⟨e,he⟩:∃e,es[k]? =some e:=⟨es[k],List.getElem?_eq_getElem hlt⟩
   obtain ⟨_,rfl,r,hbe,_⟩:=HV1.out.there (by omega)
   have hbr:=hc.keep hbe (by have:=HO.out;have:=A2.out;simp;omega)
   have ob:=old hb
   have obe:=old hbr
   have hen:e.pos<n:=HLIE.out.get he
   have g1:(k:Int)<(es.length:Int):=by omega
   have g0:(0:Int)≤(k:Int):=by omega
   have g2:(e.pos:Int)<(n:Int):=by omega
   have g3:(0:Int)≤(e.pos:Int):=by omega
   have rp:=Qe5 he r 203 (0,0)
   have ri:=Qbl he r 203 (0,0)
   have hlx:=Qaf (es.take k) xs HX.out (HLIE.out.sub (fun x hx=>List.mem_of_mem_take hx))
   have hf:=Yu hlx hen
   have rp2:=Qcc (xs:=over xs (es.take k)) (l:=e.l) (i:=e.pos) (by rw [e.h];exact hf) r' 36 (0,0)
   have ri2:=Qdy hf r' 36
   have hs:=Vh (show YL (over xs (es.take k)) e.pos e.l=over xs (es.take (k+1)) by rw [←Qd3,List.take_add_one,he];rfl)
   have he8:=e.h
   have HE:=Vh he
   clear hbe he hlx hf
   go_wp2
   go_roundw
   case rel=>exact ⟨k+1,by omega,by go_num,(hc.alloc _).putRow _ _ _ (.inl (by simp)),by rw [←hs.out];simp [*]⟩
   case measure=>simp [intOf];omega
  ·have:k=es.length:=by omega
   subst this
   go_wp2
   go_ret
   rw [List.take_length] at hb
   exact ⟨g',cap',r',rfl,hb,A2.out,by omega,A4.out.trans' hc (by have:=A2.out;simp;omega)⟩
def QRead (w:World) (g b n v:Nat) (xs:List Int) (l:List Int) (er:Int) (e:Ending) (w':World):Prop:=
 e=.returned (.tuple #[.agg (vs l),.int .i64 er])∧Chg [g] w w'∧Dev w' g b n v xs
theorem qread_ok (q be g b n v room:Nat) (es:List Ent) (xs:List Int) (i:Nat) (w:World) (hq:Que w q be g n room es) (hd:Dev w g b n v xs) (hi:i<n):
 Calls Tryz.prog 147 #[.pointer (some ⟨q,0,none⟩),.int .i64 i] w (QRead w g b n v xs (ln (over xs es) i) 0):=by
 have HQ:=Vh hq
 have hle:es.length≤16:=by have:=hq.2.1;have:=hq.2.2.2.1;omega
 obtain ⟨⟨A,cap,hq,hv⟩,_,_,_,_,hn64,hlie⟩:=hq
 have HLIE:=Vh hlie
 have HX:=Vh hd.2.2.1
 have c1:=(Chg.refl [] w).alloc (.cells (vs Jz) 36)
 have HG:=Vh (show g<w.heap.size from (old hd.1.choose_spec.choose_spec).lt)
 have HD:=Vh (hd.keep c1 (by simp) (by simp))
 have HD0:=Vh hd
 have HV:=Vh hv
 have HW:=Vh c1
 have oq:=old hq
 have obe:=(HQ.out.olde)
 clear hv hd hlie c1
 go_enter Tryz.func147,Tryz.ntmps147
 go_wp2
 go_loop [6] (fun x=>∃(k:Nat) (z:Int),k≤es.length∧z=(k:Int)-1∧x=.int .i64 z∧∀y∈es.drop k,y.pos≠i) (fun x=>(intOf x+1).toNat)
 case atStart=>exact ⟨es.length,_,by omega,rfl,rfl,by simp⟩
 case round=>
  obtain ⟨k,z,hk,hz,rfl,hno⟩:=hrel
  have HNO:=Vh hno
  clear hno
  rcases k with _|j
  ·obtain rfl:z= -1:=by omega
   clear hz
   go_wp2_with fail
   refine (read_ok g b n v i xs _ HD.out hi).mono ?_
   rintro e w2 ⟨rfl,c2,d2⟩
   have hln:ln (over xs es) i=ln xs i:=Qar es xs HX.out HLIE.out (by simpa using HNO.out)
   have hf:=Yu HX.out hi
   have hl:=Qah xs i hf
   have hb2:=c2.keep (k:=w.heap.size) (x:=.cells (vs Jz) 36 (0,0)) (by simp) (by have:=HG.out;simp;omega)
   have ob2:=old hb2
   have D2:=Vh d2
   have C2:=Vh ((HW.out.mono (l':=[g]) (by simp)).trans c2)
   have HLN:=Vh hln
   clear d2 c2 hf hln
   go_wp2
   refine bodyPost_ret (v:=.tuple #[.agg (vs (ln xs i)),.int .i64 0]) ?_ (by rfl) ?_
   ·exact Ym (by rfl) _ _ w.heap.size (ln xs i) (0,0) (by rfl) (by simp [*]) hl _ (by rfl)
   ·rw [HLN.out]
    exact ⟨rfl,C2.out.putRow _ _ _ (.inr (Nat.le_refl _)),D2.out.keep ((Chg.refl [w.heap.size] w2).putRow _ _ _ (.inl (by simp))) (by have:=HG.out;simp;omega) (by have:=(old HD0.out.2.1).lt;simp;omega)⟩
  ·obtain rfl:z=(j:Int):=by omega
   clear hz
   have hlt:j<es.length:=hk
   obtain ⟨e,he⟩:∃e,es[j]? =some e:=⟨es[j],List.getElem?_eq_getElem hlt⟩
   obtain ⟨_,rfl,r,hbe,_⟩:=HV.out.there (by omega)
   have g1:(j:Int)<(es.length:Int):=by omega
   have g0:(0:Int)≤(j:Int):=by omega
   have rc:=Qax he r
   by_cases hei:e.pos=i
   ·subst hei
    have t1:(e.pos==e.pos)=true:=by simp
    have rp:=Qf0 he r 203 (0,0)
    have ri:=Qc1 he r 203 (0,0)
    have hl:=e.h
    have hln:=Vh (ln_over_at xs HX.out HLIE.out he HNO.out)
    clear he hk
    go_wp2
    refine bodyPost_ret (v:=.tuple #[.agg (vs e.l),.int .i64 0]) ?_ (by rfl) ?_
    ·exact Ym (by rfl) _ _ w.heap.size e.l (0,0) (by rfl) (by simp [*]) hl _ (by rfl)
    ·rw [hln.out]
     exact ⟨rfl,((Chg.refl _ _).alloc _),HD0.out.keep ((Chg.refl [] w).alloc _) (by simp) (by simp)⟩
   ·have t1:(e.pos==i)=false:=by simpa using hei
    have HN2:=Vh (drop_all he hei HNO.out)
    clear he
    go_wp2
    go_round
    case rel=>exact ⟨j,_,by omega,rfl,rfl,HN2.out⟩
    case measure=>simp [intOf]
end
section
set_option maxRecDepth 100000
attribute [local go_sem ↓] QA QQ QH Q8 QS QC Za QN Qbx JX Qm Ql heap_alloc Qo heap_setCell Qb ZF J3
attribute [local go_sem] Qc Qa Qd Qj Qf Qe Qh Qi Qw ZE QZ Qbp QO QG Q6 Q0 Q5 Zi Q9 QM QB QI Zj Q7 Qz QP Qt Qk Qs Qr Qq Qp Qg Zb Ze lit8 XB J4 Jx Qb0 J2 Jw
attribute [local simp ↓] Qm Ql heap_alloc Qo heap_setCell Qb
attribute [local simp] Qc Qa Qd Qj Qf Qe Qh Qi Qw QB Qk Qs Qr Qq Qp Qg XB
def QCut (w:World) (q be g n room:Nat) (es:List Ent) (e:Ending) (w':World):Prop:=e=.returned (.tuple #[])∧Chg [q,be] w w'∧Que w' q be g n room es
theorem ent_zero:∀w,(zeroValue 203).run Tryz.prog w=.ok entZ w:=fun w=>by
 obtain ⟨i0,hi0,hz0,hz1,hz2⟩:=info_parts ent_info
 simp [zeroValue,typeInfo,hi0,hz0]
theorem clear_from (w:World) (q be m:Nat) (A:Option Addr) (cap:Nat) (es:List Ent) (hv:Vec 9 203 Ent.enc w q be A cap es) (hm:m≤es.length):
 ∃w',clrR Tryz.prog 162 0 #[.slice (if cap=m then A else A.map (·.add (m*9))) (es.length-m) (cap-m)] w=.ok (.tuple #[]) w'∧Chg [be] w w'∧w'.heap[q]? =w.heap[q]?∧Vec 9 203 Ent.enc w' q be A cap (es.take m):=by
 by_cases h:m=es.length
 ·subst h
  refine ⟨w,?_,Chg.refl _ _,rfl,by rw [List.take_length];exact hv⟩
  rw [Nat.sub_self]
  exact run_clear_sl0 Tryz.underlying162 w _ _
 ·have hlt:m<es.length:=by omega
  obtain ⟨hne,rfl,r,hb,hr⟩:=hv.there (by omega)
  have hle:=hv.le
  have hsz:(sq Ent.enc es r).size=es.length*9+r.length:=J9 Ent.len es r
  have hrow:Z7 (w.heap[be]?) (m*9) ((es.length-m)*9)=true:=by
   rw [hb,Qd,hsz]
   exact Tz139
  have hcl:=run_clear_sl (P:=Tryz.prog) (t:=162) (ty:=0) Tryz.underlying162 ent_zero entZ_one w be (m*9) (es.length-m) (cap-m) (by omega) hrow
  rw [if_neg (by omega)]
  refine ⟨_,by rw [Option.map_some,Addr.add_mid,Nat.zero_add];exact hcl,(Chg.refl _ _).putRow _ _ _ (.inl (by simp)),?_,?_⟩
  ·rw [Qb _ _ _ _ _ (by rw [size_zeroCells];exact hrow),if_neg (Ne.symm hne)]
  ·refine .inr ⟨hne,rfl,by rw [List.length_take];omega,(Builtin.zeroCells entZ.cells (es.length-m)).toList++r,?_,?_⟩
   ·rw [Qb _ _ _ _ _ (by rw [size_zeroCells];exact hrow),if_pos rfl,hb,XI,Yl]
    have hz:(Builtin.zeroCells entZ.cells (es.length-m)).toList.length=(es.length-m)*9:=by rw [Array.length_toList,size_zeroCells];rfl
    generalize (Builtin.zeroCells entZ.cells (es.length-m)).toList=z at hz
    congr 2
    unfold sq Z9
    have e1:(cat Ent.enc es).length=es.length*9:=Zo Ent.len es
    rw [List.take_append_of_le_length (by omega),Qc3 Ent.len,List.drop_append,List.drop_eq_nil_of_le (by omega),List.nil_append,e1,hz,show m*9+(es.length-m)*9-es.length*9=0 by omega,List.drop_zero,List.append_assoc]
   ·simp only [List.length_append,List.length_take,Array.length_toList,size_zeroCells]
    rw [Qg1,Nat.min_eq_left hm]
    omega
theorem shorten_ok (q be g n room m:Nat) (es:List Ent) (w:World) (hq:Que w q be g n room es) (hm:m≤es.length):
 Calls Tryz.prog 126 #[.pointer (some ⟨q,0,none⟩),.int .i64 m] w (QCut w q be g n room (es.take m)):=by
 have HQ:=Vh hq
 obtain ⟨⟨A,cap,hq,hv⟩,hl,hr1,hr16,_⟩:=hq
 have hle:=hv.le
 have HM:=Vh hm
 obtain ⟨w1,hcl,hc,hqq,hv1⟩:=clear_from w q be m A cap es hv hm
 have hq1:w1.heap[q]? =some (.cells #[.pointer (some ⟨g,0,none⟩),.int .i64 n,.int .i64 room,.slice A es.length cap] 164 (0,0)):=by rw [hqq];exact hq
 have oq1:=old hq1
 have HV1:=Vh hv1
 have HC:=Vh hc
 have g1:(m:Int)≤(es.length:Int):=by omega
 have g2:(m:Int)≤(cap:Int):=by omega
 clear hv hv1 hqq hc hm
 go_enter Tryz.func126,Tryz.ntmps126
 go_wp2
 all_goals
  go_end0
  have hnq:be∉[q]∨es.take m=[]:=by
   rcases HV1.out with ⟨_,_,_,h⟩|⟨h,_⟩
   ·exact .inr h
   ·exact .inl (by simpa using h)
  refine ⟨rfl,?_,⟨A,cap,?_,?_⟩,by rw [List.length_take];omega,hr1,hr16,HQ.out.2.2.2.2.1,HQ.out.2.2.2.2.2.1,HQ.out.2.2.2.2.2.2.sub (fun x hx=>List.mem_of_mem_take hx)⟩
  ·exact (HC.out.mono (l':=[q,be]) (by simp)).setCell _ _ _ (.inl (by simp))
  ·rw [List.length_take,Nat.min_eq_left HM.out];first |(simp [hq1];done)|(simp [hq1];omega)
  ·rcases HV1.out with ⟨h1,h2,h3,h4⟩|⟨h1,h2,h3,r,h4,h5⟩
   ·exact .inl ⟨h1,h2,h3,h4⟩
   ·exact (HV1.out).keep ((Chg.refl [q] w1).setCell _ _ _ (.inl (by simp))) (by simpa using h1)
theorem copy_up (w:World) (q be i:Nat) (cap:Nat) (A:Option Addr) (es:List Ent) (hv:Vec 9 203 Ent.enc w q be A cap es) (hi:i<es.length):
 ∃w',copR Tryz.prog 162 162 3 #[.slice (A.map (·.add (i*9))) (es.length-i) (cap-i),.slice (if cap=i+1 then A else A.map (·.add ((i+1)*9))) (es.length-(i+1)) (cap-(i+1))] w=.ok (goInt (es.length-(i+1):Nat)) w'∧
  Chg [be] w w'∧w'.heap[q]? =w.heap[q]?∧Vec 9 203 Ent.enc w' q be A cap (Z9 es i (es.drop (i+1))):=by
 obtain ⟨i0,hi0,hz0,hz1,hz2⟩:=info_parts ent_info
 obtain ⟨hne,rfl,r,hb,hr⟩:=hv.there (by omega)
 have hle:=hv.le
 have hsz:(sq Ent.enc es r).size=es.length*9+r.length:=J9 Ent.len es r
 have hl:(cat Ent.enc (es.drop (i+1))).length=(es.length-(i+1))*9:=by rw [Zo Ent.len,List.length_drop]
 have hsl:Sl w i0.size (if cap=i+1 then some ⟨be,0,none⟩ else (some (⟨be,0,none⟩:Addr)).map (·.add ((i+1)*9))) (es.length-(i+1)) (cat Ent.enc (es.drop (i+1))):=by
  rw [hz1]
  split
  ·exact ⟨hl,.inl (by omega)⟩
  ·rw [Option.map_some,Addr.add_mid,Nat.zero_add]
   exact hv.slFrom Ent.len (by omega)
 have hrow:Z7 (w.heap[be]?) (i*9) (cat Ent.enc (es.drop (i+1))).length=true:=by
  rw [hb,Qd,hsz,hl]
  exact Tz139
 have hcp:=run_copy_sl (P:=Tryz.prog) (t:=162) (t':=162) (ty:=3) Tryz.underlying162 hi0 w be (i*9) _ (es.length-(i+1)) (cap-(i+1)) (es.length-i) (cap-i) _ hsl (by omega) (Qa0 Ent.one _) hrow
 refine ⟨_,by rw [Option.map_some,Addr.add_mid,Nat.zero_add];exact hcp,(Chg.refl _ _).putRow _ _ _ (.inl (by simp)),?_,?_⟩
 ·rw [Qb _ _ _ _ _ (by simpa using hrow),if_neg (Ne.symm hne)]
 ·refine .inr ⟨hne,rfl,by rw [Js _ _ _ (by rw [List.length_drop];omega)];exact hle,r,?_,by rw [Js _ _ _ (by rw [List.length_drop];omega)];exact hr⟩
  rw [Qb _ _ _ _ _ (by simpa using hrow),if_pos rfl,hb,XI,Yl,List.toList_toArray,Qbq _ _ _ _ (by rw [hl,Zo Ent.len];omega),cat_splice Ent.len]
  rfl
theorem splice_up {α:Type} (es:List α) (i:Nat) (hi:i<es.length):(Z9 es i (es.drop (i+1))).take (es.length-1)=es.eraseIdx i:=by
 unfold Z9
 rw [erase_at,List.take_append_of_le_length (by simp;omega),List.take_of_length_le (by simp;omega)]
theorem cut_ok (q be g n room i:Nat) (es:List Ent) (w:World) (hq:Que w q be g n room es) (hi:i<es.length):
 Calls Tryz.prog 165 #[.pointer (some ⟨q,0,none⟩),.int .i64 i] w (QCut w q be g n room (es.eraseIdx i)):=by
 have HQ:=Vh hq
 obtain ⟨⟨A,cap,hq,hv⟩,hl,hr1,hr16,_⟩:=hq
 have hle:=hv.le
 obtain ⟨w1,hcp,hc,hqq,hv1⟩:=copy_up w.drew q be i cap A es (hv.keep (Chg.refl [] w).drew (by simp)) hi
 have hq1:w1.heap[q]? =some (.cells #[.pointer (some ⟨g,0,none⟩),.int .i64 n,.int .i64 room,.slice A es.length cap] 164 (0,0)):=by rw [hqq];exact hq
 have hln:(Z9 es i (es.drop (i+1))).length=es.length:=Js _ _ _ (by rw [List.length_drop];omega)
 have hq2:Que w1 q be g n room (Z9 es i (es.drop (i+1))):=by
  refine ⟨⟨A,cap,by rw [hln];exact hq1,hv1⟩,by rw [hln];exact hl,hr1,hr16,HQ.out.2.2.2.2.1,HQ.out.2.2.2.2.2.1,HQ.out.2.2.2.2.2.2.sub ?_⟩
  intro x hx
  unfold Z9 at hx
  rcases List.mem_append.1 hx with hx|hx
  ·rcases List.mem_append.1 hx with hx|hx
   ·exact List.mem_of_mem_take hx
   ·exact List.mem_of_mem_drop hx
  ·exact List.mem_of_mem_drop hx
 have oq1:=old hq1
 have HC:=Vh ((Chg.refl [be] w).drew.trans hc)
 have HQ2:=Vh hq2
 have HI:=Vh hi
 have HLN:=Vh hln
 have g1:(i:Int)≤(es.length:Int):=by omega
 have g2:(i:Int)+1≤(es.length:Int):=by omega
 clear hv hv1 hqq hc hq2 hln
 go_enter Tryz.func165,Tryz.ntmps165
 go_wp2
 go_region
 all_goals go_wp2_with fail
 all_goals
  have hlt:((es.length-1:Nat):Int)=(es.length:Int)-1:=by have:=HI.out;omega
  rw [←hlt]
  clear hlt
  refine (shorten_ok q be g n room (es.length-1) (Z9 es i (es.drop (i+1))) _ HQ2.out (by rw [HLN.out];omega)).mono ?_
  rintro e w2 ⟨rfl,c2,q2⟩
  have C2:=Vh c2
  have Q2:=Vh q2
  clear c2 q2
  go_wp2_with fail
  go_end0
  exact ⟨rfl,(HC.out.mono (l':=[q,be]) (by simp)).trans C2.out,by rw [←splice_up es i HI.out];exact Q2.out⟩
theorem drain_none (q be g n room:Nat) (es:List Ent) (i:Int) (w:World) (hq:Que w q be g n room es) (hi:∀e∈es,(e.pos:Int)≠i):
 Calls Tryz.prog 106 #[.pointer (some ⟨q,0,none⟩),.int .i64 i] w fun e w'=>e=.returned (.int .i64 14)∧Chg [] w w':=by
 have HQ:=Vh hq
 have HI:=Vh hi
 have hle:es.length≤16:=by have:=hq.2.1;have:=hq.2.2.2.1;omega
 obtain ⟨⟨A,cap,hq,hv⟩,_⟩:=hq
 have HV:=Vh hv
 have oq:=old hq
 clear hv hi
 go_enter Tryz.func106,Tryz.ntmps106
 go_wp2
 go_loopw [14] (fun x wr=>∃k:Nat,k≤es.length∧x=.int .i64 k∧Chg [] w wr) (fun x _=>es.length-(intOf x).toNat)
 case atStart=>exact ⟨0,by omega,rfl,Chg.refl _ _⟩
 case round=>
  obtain ⟨k,hk,rfl,hc⟩:=hrel
  by_cases hlt:k<es.length
  ·obtain ⟨e,he⟩:∃e,es[k]? =some e:=⟨es[k],List.getElem?_eq_getElem hlt⟩
   obtain ⟨_,rfl,r,hbe,_⟩:=HV.out.there (by omega)
   have hbr:=hc.keep hbe (by simp)
   have obe:=old hbr
   have g1:(k:Int)<(es.length:Int):=by omega
   have g0:(0:Int)≤(k:Int):=by omega
   have rp:=Qe5 he r 203 (0,0)
   have ri:=Qbl he r 203 (0,0)
   have t1:((e.pos:Int)==i)=false:=by simpa using HI.out e (List.mem_of_getElem? he)
   clear hbe he
   go_wp2
   go_roundw
   case rel=>exact ⟨k+1,by omega,by go_num,hc.alloc _⟩
   case measure=>simp [intOf];omega
  ·have:k=es.length:=by omega
   subst this
   go_wp2
   go_ret
   exact ⟨rfl,hc⟩
def QDrain (w:World) (q be g b n v room:Nat) (es:List Ent) (xs:List Int) (e:Ending) (w':World):Prop:=
 e=.returned (.int .i64 0)∧Chg [q,be,g,b] w w'∧Que w' q be g n room es∧Dev w' g b n v xs
def Apart (q be g b:Nat):Prop:=q≠g∧q≠b∧be≠g∧be≠b
theorem drain_ok (q be g b n v room:Nat) (es:List Ent) (xs:List Int) (j:Nat) (x:Ent) (w:World) (hq:Que w q be g n room es) (hd:Dev w g b n v xs) (ha:Apart q be g b) (hx:es[j]? =some x) (hi:∀e∈es.take j,(e.pos:Int)≠(x.pos:Int)):
 Calls Tryz.prog 106 #[.pointer (some ⟨q,0,none⟩),.int .i64 x.pos] w (QDrain w q be g b n v room (es.eraseIdx j) (YL xs x.pos x.l)):=by
 have HQ:=Vh hq
 have HI:=Vh hi
 have HA:=Vh ha
 have HD:=Vh hd
 have HX:=Vh hx
 have hle:es.length≤16:=by have:=hq.2.1;have:=hq.2.2.2.1;omega
 obtain ⟨⟨A,cap,hq,hv⟩,_⟩:=hq
 have HV:=Vh hv
 have HQ0:=Vh hq
 have oq:=old hq
 have hjl:j<es.length:=(Vg hx).1
 clear hv hi ha hd hx
 go_enter Tryz.func106,Tryz.ntmps106
 go_wp2
 go_loopw [14] (fun y wr=>∃k:Nat,k≤j∧y=.int .i64 k∧Chg [] w wr) (fun y _=>es.length-(intOf y).toNat)
 case atStart=>exact ⟨0,by omega,rfl,Chg.refl _ _⟩
 case round=>
  obtain ⟨k,hk,rfl,hc⟩:=hrel
  obtain ⟨_,rfl,r,hbe,_⟩:=HV.out.there (by omega)
  have hbr:=hc.keep hbe (by simp)
  have hqr:=hc.keep HQ0.out (by simp)
  have obe:=old hbr
  have oqr:=old hqr
  have g1:(k:Int)<(es.length:Int):=by omega
  have g0:(0:Int)≤(k:Int):=by omega
  by_cases hkj:k<j
  ·obtain ⟨e,he⟩:∃e,es[k]? =some e:=⟨es[k]'(by omega),List.getElem?_eq_getElem (by omega)⟩
   have rp:=Qe5 he r 203 (0,0)
   have ri:=Qbl he r 203 (0,0)
   have t1:(e.pos==x.pos)=false:=by
    have:=HI.out e (List.mem_of_getElem? (show (es.take j)[k]? =some e by rw [List.getElem?_take_of_lt hkj];exact he))
    simp;omega
   clear hbe he
   go_wp2
   go_roundw
   case rel=>exact ⟨k+1,by omega,by go_num,hc.alloc _⟩
   case measure=>simp [intOf];omega
  ·obtain rfl:k=j:=by omega
   have rp:=Qe5 HX.out r 203 (0,0)
   have ri:=Qbl HX.out r 203 (0,0)
   have t1:(x.pos==x.pos)=true:=by simp
   have hx8:=x.h
   have HC:=Vh hc
   have HBE:=Vh hbe
   clear hbe hc hkj hk
   go_wp2_with fail
   have hqx:(wr.alloc (.cells (entc x) 203)).heap[q]? =some (.cells #[.pointer (some ⟨g,0,none⟩),.int .i64 n,.int .i64 room,.slice (some ⟨be,0,none⟩) es.length cap] 164 (0,0)):=by simp [hqr]
   have hxx:(wr.alloc (.cells (entc x) 203)).heap[wr.heap.size]? =some (.cells (entc x) 203 (0,0)):=by simp
   have C1:=Vh (HC.out.alloc (.cells (entc x) 203))
   have HZ:=Vh HC.out.size
   generalize wr.alloc (.cells (entc x) 203)=w1 at hqx hxx C1 ⊢
   have HGB:=Vh (show g<wr.heap.size∧b<wr.heap.size from ⟨Nat.lt_of_lt_of_le (old HD.out.1.choose_spec.choose_spec).lt HZ.out,Nat.lt_of_lt_of_le (old HD.out.2.1).lt HZ.out⟩)
   have D1:=Vh (HD.out.keep C1.out (by simp) (by simp))
   have Q1:=Vh (HQ.out.keep C1.out (by simp) (by simp))
   go_region_held3 (fun w'=>w'.heap[q]? =some (.cells #[.pointer (some ⟨g,0,none⟩),.int .i64 n,.int .i64 room,.slice (some ⟨be,0,none⟩) es.length cap] 164 (0,0))∧w'.heap[wr.heap.size]? =some (.cells (entc x) 203 (0,0))) (first |exact ⟨hqx,hxx⟩|exact ⟨c2.keep hqx (by have:=HA.out.1;have:=HA.out.2.1;simp;omega),c2.keep hxx (by have:=HGB.out;simp;omega)⟩)
    ((go_at_call 125;refine (write_ok g b n v x.pos x.l xs _ (D1.out.keep ((Chg.refl [] w1).drew) (by simp) (by simp)) (HQ.out.2.2.2.2.2.2.get HX.out) hx8).mono ?_;rintro e w' ⟨rfl,c2,d2⟩))
   all_goals
    have HA1:=HA.out
    have Q2:=Vh (Q1.out.keep (l:=[g,b]) ((Chg.refl [g,b] w1).drew.trans c2) (by have:=HA1.1;have:=HA1.2.1;simp;omega) (by have:=HA1.2.2.1;have:=HA1.2.2.2;simp;omega))
    have D2:=Vh d2
    have C2:=Vh ((C1.out.mono (l':=[g,b]) (by simp)).drew.trans c2)
    clear c2 d2 HA1 hqx hxx
    go_wp2_with fail
    refine (cut_ok q be g n room k es _ Q2.out hjl).mono ?_
    rintro e w4 ⟨rfl,c4,q4⟩
    have HA1:=HA.out
    have D4:=Vh (D2.out.keep c4 (by have:=HA1.1;have:=HA1.2.2.1;simp;omega) (by have:=HA1.2.1;have:=HA1.2.2.2;simp;omega))
    have C4:=Vh ((C2.out.mono (l':=[q,be,g,b]) (by simp)).trans' c4 (by simp))
    have Q4:=Vh q4
    clear c4 q4 HA1
    go_wp2_with fail
    go_ret
    exact ⟨rfl,C4.out,Q4.out,D4.out⟩
def QFail (w:World) (q be g b n v room:Nat) (xs:List Int) (e:Ending) (w':World):Prop:=
 e=.returned (.tuple #[])∧Chg [q,be,g,b] w w'∧Que w' q be g n room []∧Dev w' g b n v xs
theorem qfail_ok (q be g b n v room:Nat) (es:List Ent) (xs:List Int) (w:World) (hq:Que w q be g n room es) (hd:Dev w g b n v xs) (ha:Apart q be g b):
 Calls Tryz.prog 78 #[.pointer (some ⟨q,0,none⟩)] w (QFail w q be g b n v room (XE (over xs es) v)):=by
 have HQ:=Vh hq
 have HA:=Vh ha
 have HD:=Vh hd
 have hle:es.length≤16:=by have:=hq.2.1;have:=hq.2.2.2.1;omega
 obtain ⟨⟨A,cap,hq,hv⟩,_⟩:=hq
 have HV:=Vh hv
 have HQ0:=Vh hq
 have oq:=old hq
 clear hv ha hd
 go_enter Tryz.func78,Tryz.ntmps78
 go_wp2
 go_loopw [11] (fun y wr=>∃k:Nat,k≤es.length∧y=.int .i64 k∧Chg [g,b] w wr∧Dev wr g b n v (over xs (es.take k))) (fun y _=>es.length-(intOf y).toNat)
 case atStart=>exact ⟨0,by omega,rfl,Chg.refl _ _,by rw [List.take_zero];exact HD.out⟩
 case round=>
  obtain ⟨k,hk,rfl,hc,hd⟩:=hrel
  have HA1:=HA.out
  have hqr:=hc.keep HQ0.out (by have:=HA1.1;have:=HA1.2.1;simp;omega)
  have oqr:=old hqr
  by_cases hlt:k<es.length
  ·obtain ⟨e,he⟩:∃e,es[k]? =some e:=⟨es[k],List.getElem?_eq_getElem hlt⟩
   obtain ⟨_,rfl,r,hbe,_⟩:=HV.out.there (by omega)
   have hbr:=hc.keep hbe (by have:=HA1.2.2.1;have:=HA1.2.2.2;simp;omega)
   have obe:=old hbr
   have g1:(k:Int)<(es.length:Int):=by omega
   have g0:(0:Int)≤(k:Int):=by omega
   have rp:=Qe5 he r 203 (0,0)
   have ri:=Qbl he r 203 (0,0)
   have he8:=e.h
   have HC:=Vh hc
   have HDR:=Vh hd
   have HEN:=Vh (HQ.out.2.2.2.2.2.2.get he)
   have hs:=Vh (show YL (over xs (es.take k)) e.pos e.l=over xs (es.take (k+1)) by rw [←Qd3,List.take_add_one,he];rfl)
   clear hbe hc hd he HA1
   go_wp2_with fail
   have hqx:(wr.alloc (.cells (entc e) 203)).heap[q]? =some (.cells #[.pointer (some ⟨g,0,none⟩),.int .i64 n,.int .i64 room,.slice (some ⟨be,0,none⟩) es.length cap] 164 (0,0)):=by simp [hqr]
   have hxx:(wr.alloc (.cells (entc e) 203)).heap[wr.heap.size]? =some (.cells (entc e) 203 (0,0)):=by simp
   have C1:=Vh (HC.out.alloc (.cells (entc e) 203))
   have D1:=Vh (HDR.out.keep ((Chg.refl [] wr).alloc (.cells (entc e) 203)) (by simp) (by simp))
   have HZ:=Vh HC.out.size
   generalize wr.alloc (.cells (entc e) 203)=w1 at hqx hxx C1 D1 ⊢
   have HGB:=Vh (show g<wr.heap.size∧b<wr.heap.size from ⟨Nat.lt_of_lt_of_le (old HD.out.1.choose_spec.choose_spec).lt HZ.out,Nat.lt_of_lt_of_le (old HD.out.2.1).lt HZ.out⟩)
   go_region_held3 (fun w'=>w'.heap[q]? =some (.cells #[.pointer (some ⟨g,0,none⟩),.int .i64 n,.int .i64 room,.slice (some ⟨be,0,none⟩) es.length cap] 164 (0,0))∧w'.heap[wr.heap.size]? =some (.cells (entc e) 203 (0,0))) (first |exact ⟨hqx,hxx⟩|exact ⟨c2.keep hqx (by have:=HA.out.1;have:=HA.out.2.1;simp;omega),c2.keep hxx (by have:=HGB.out;simp;omega)⟩)
    ((go_at_call 125;refine (write_ok g b n v e.pos e.l (over xs (es.take k)) _ (D1.out.keep ((Chg.refl [] w1).drew) (by simp) (by simp)) HEN.out he8).mono ?_;rintro e w' ⟨rfl,c2,d2⟩))
   all_goals
    have D2:=Vh d2
    have C2:=Vh (C1.out.drew.trans c2)
    clear c2 d2 hqx hxx
    go_wp2_with fail
    go_roundw
    case rel=>exact ⟨k+1,by omega,by go_num,C2.out,by rw [←hs.out];exact D2.out⟩
    case measure=>simp [intOf];omega
  ·obtain rfl:k=es.length:=by omega
   have HC:=Vh hc
   have HDR:=Vh (show Dev wr g b n v (over xs es) by rw [List.take_length] at hd;exact hd)
   have Q1:=Vh (HQ.out.keep hc (by have:=HA1.1;have:=HA1.2.1;simp;omega) (by have:=HA1.2.2.1;have:=HA1.2.2.2;simp;omega))
   clear hc hd HA1
   go_wp2_with fail
   refine (shorten_ok q be g n room 0 es _ Q1.out (by omega)).mono ?_
   rintro e w2 ⟨rfl,c2,q2⟩
   rw [List.take_zero] at q2
   have HA1:=HA.out
   have D2:=Vh (HDR.out.keep c2 (by have:=HA1.1;have:=HA1.2.2.1;simp;omega) (by have:=HA1.2.1;have:=HA1.2.2.2;simp;omega))
   have C2:=Vh ((HC.out.mono (l':=[q,be,g,b]) (by simp)).trans' c2 (by simp))
   have Q2:=Vh q2
   obtain ⟨⟨A2,cap2,hq2,_⟩,_⟩:=q2
   have oq2:=old hq2
   clear c2 HA1
   go_wp2_with fail
   refine (fail_ok g b n v (over xs es) _ D2.out).mono ?_
   rintro e w3 ⟨rfl,c3,d3⟩
   have HA1:=HA.out
   have Q3:=Vh (Q2.out.keep c3 (by have:=HA1.2.1;simp;omega) (by have:=HA1.2.2.2;simp;omega))
   have C3:=Vh (C2.out.trans' c3 (by simp))
   have D3:=Vh d3
   clear c3 d3 HA1
   go_wp2_with fail
   go_end0
   exact ⟨rfl,C3.out,Q3.out,D3.out⟩
end
section
set_option maxRecDepth 100000
theorem Qd8 (x:Value):Instr.loadAt 201 x=Qc8 201 9 x:=rfl
theorem Qca (x y:Value):Instr.storeAt 201 x y=JW 201 9 x y:=rfl
attribute [local go_sem ↓] QA QQ QH Q8 QS QC Za QN Qbx JX Qd8 Qca Qm Ql heap_alloc Qo heap_setCell Qb ZF J3
attribute [local go_sem] Qc Qa Qd Qj Qf Qe Qh Qi Qw ZE QZ Qbp QO QG Q6 Q0 Q5 Zi Q9 QM QB QI Zj Q7 Qz QP Qt Qk Qs Qr Qq Qp Qg Zb Ze lit8 XB J4 Jx Qb0 J2 Jw
attribute [local simp ↓] Qm Ql heap_alloc Qo heap_setCell Qb
attribute [local simp] Qc Qa Qd Qj Qf Qe Qh Qi Qw QB Qk Qs Qr Qq Qp Qg XB
theorem rent_info:(Tryz.prog.info? 201).map (fun i=>(i.zero,i.size,i.bytes))=some (some entZ,9,72):=by kernel_rfl
theorem eltREnt:Elt Tryz.prog 170 201 9 72 entZ Ent.enc where
 slice:=Tryz.underlying170
 info:=rent_info
 zero:=Qg1
 zone:=entZ_one
 pos:=by omega
 len:=Ent.len
 one:=Ent.one
def RQue (w:World) (p bp o n room:Nat) (es:List Ent):Prop:=
 (∃A cap,w.heap[p]? =some (.cells #[.pointer (some ⟨o,0,none⟩),.int .i64 room,.slice A es.length cap] 172 (0,0))∧Vec 9 201 Ent.enc w p bp A cap es)∧
  es.length≤room∧1≤room∧room≤16∧2≤n∧n≤64∧Lie n es
theorem RQue.keep {w w':World} {p bp o n room:Nat} {es:List Ent} {l:List Nat} (h:RQue w p bp o n room es) (hc:Chg l w w') (hq:p∉l) (hb:bp∉l):RQue w' p bp o n room es:=by
 obtain ⟨⟨A,cap,h1,h2⟩,h3⟩:=h
 exact ⟨⟨A,cap,hc.keep h1 hq,h2.keep hc hb⟩,h3⟩
theorem RQue.oldq {w:World} {p bp o n room:Nat} {es:List Ent} (h:RQue w p bp o n room es):Old w p:=by
 obtain ⟨⟨A,cap,h1,h2⟩,h3⟩:=h
 exact old h1
theorem RQue.olde {w:World} {p bp o n room:Nat} {es:List Ent} (h:RQue w p bp o n room es):Old w bp:=by
 obtain ⟨⟨A,cap,h1,h2⟩,h3⟩:=h
 exact h2.old (old h1)
def MadeRQue (w0:World) (o n room:Nat) (e:Ending) (w':World):Prop:=
 ∃p,e=.returned (.tuple #[.pointer (some ⟨p,0,none⟩),.int .i64 0])∧w0.heap.size≤p∧Chg [] w0 w'∧RQue w' p p o n room []
theorem rqnew_ok (o n room:Nat) (w:World) (hn2:2≤n) (hn:n≤64) (h1:1≤room) (h2:room≤16):Calls Tryz.prog 47 #[.pointer (some ⟨o,0,none⟩),.int .i64 room] w (MadeRQue w o n room):=by
 have t1:decide ((room:Int)<1)=false:=by simp;omega
 have t2:decide ((16:Int)<room)=false:=by simp;omega
 go_enter Tryz.func47,Tryz.ntmps47
 go_wp2
 go_ret2
 exact ⟨w.heap.size,rfl,Nat.le_refl _,(Chg.refl _ _).alloc _,⟨none,0,by simp,Vec.nil _ _ _ _ _⟩,by simp,h1,h2,hn2,hn,Lie.nil n⟩
theorem rpush_out (p bp o bq n v room:Nat) (es:List Ent) (xs:List Int) (i:Int) (l:List Int) (w:World) (hq:RQue w p bp o n room es) (hd:RDev w o bq n v xs) (h:¬(0≤i∧i<n)):Calls Tryz.prog 119 #[.pointer (some ⟨p,0,none⟩),.int .i64 i,.agg (vs l)] w fun e w'=>e=.returned (.int .i64 12)∧Chg [] w w':=by
 have H:=Vh h
 have HD:=Vh (hd.keep ((Chg.refl [] w).alloc (.cells (vs l) 36)) (by simp) (by simp))
 obtain ⟨⟨A,cap,hq,_⟩,_⟩:=hq
 have oq:=old hq
 clear h hd
 go_enter Tryz.func119,Tryz.ntmps119
 go_wp2_with fail
 refine (has_no o bq n v i xs _ HD.out H.out).mono ?_
 rintro e w' ⟨rfl,rfl⟩
 go_wp2
 exact Tz70
theorem rpush_full (p bp o bq n v room:Nat) (es:List Ent) (xs:List Int) (i:Nat) (l:List Int) (w:World) (hq:RQue w p bp o n room es) (hd:RDev w o bq n v xs) (hi:i<n) (hr:room≤es.length):Calls Tryz.prog 119 #[.pointer (some ⟨p,0,none⟩),.int .i64 i,.agg (vs l)] w fun e w'=>e=.returned (.int .i64 13)∧Chg [] w w':=by
 have HD:=Vh (hd.keep ((Chg.refl [] w).alloc (.cells (vs l) 36)) (by simp) (by simp))
 obtain ⟨⟨A,cap,hq,_⟩,_⟩:=hq
 have oq:=old hq
 have t3:decide (room≤es.length)=true:=by simpa using hr
 clear hr hd
 go_enter Tryz.func119,Tryz.ntmps119
 go_wp2_with fail
 refine (has_yes o bq n v i xs _ HD.out (by omega) (by omega)).mono ?_
 rintro e w' ⟨rfl,rfl⟩
 go_wp2
 go_quiet (fail)
 go_wp2
 go_ret
 exact ⟨rfl,((Chg.refl _ _).alloc _).drewN _⟩
def RQPut (w:World) (p bp o n room:Nat) (es:List Ent) (v:Value) (e:Ending) (w':World):Prop:=
 e=.returned v∧∃bp',(bp'=bp∨w.heap.size≤bp')∧Chg [p,bp] w w'∧RQue w' p bp' o n room es
theorem rent_slice (w:World) (e:Ent):Sl ((w.alloc (.cells (entc e) 201)).drew) 9 (some ⟨w.heap.size,0,none⟩) 1 (cat Ent.enc [e]):=
 ⟨by rw [Zo Ent.len];rfl,.inr ⟨w.heap.size,0,entc e,201,(0,0),rfl,by simp,by rw [JV];simp [entc,Ent.len,List.take_of_length_le]⟩⟩
theorem rpush_ok (p bp o bq n v room:Nat) (es:List Ent) (xs:List Int) (x:Ent) (w:World) (hq:RQue w p bp o n room es) (hd:RDev w o bq n v xs) (hi:x.pos<n) (hr:es.length<room):
 Calls Tryz.prog 119 #[.pointer (some ⟨p,0,none⟩),.int .i64 x.pos,.agg (vs x.l)] w (RQPut w p bp o n room (es++[x]) (.int .i64 0)):=by
 have HQ:=Vh hq
 have HD:=Vh (hd.keep ((Chg.refl [] w).alloc (.cells (vs x.l) 36)) (by simp) (by simp))
 obtain ⟨⟨A,cap,hq,hv⟩,_⟩:=hq
 have HV:=Vh hv
 have oq:=old hq
 have t3:decide (room≤es.length)=false:=by simpa using hr
 have HR:=Vh hr
 have hl8:=x.h
 clear hr hv hd
 go_enter Tryz.func119,Tryz.ntmps119
 go_wp2_with fail
 refine (has_yes o bq n v x.pos xs _ HD.out (by omega) (by omega)).mono ?_
 rintro e w' ⟨rfl,rfl⟩
 go_wp2
 go_quiet (fail)
 go_wp2_with fail
 have hbox:((w.alloc (.cells (vs x.l) 36)).drewN nq).heap[w.heap.size]? =some (.cells (vs x.l) 36 (0,0)):=by simp
 have c1:=((Chg.refl [] w).alloc (.cells (vs x.l) 36)).drewN nq
 have HZ:=Vh (show ((w.alloc (.cells (vs x.l) 36)).drewN nq).heap.size=w.heap.size+1 by simp)
 generalize (w.alloc (.cells (vs x.l) 36)).drewN nq=w1 at hbox c1 HZ ⊢
 have hq1:=c1.keep hq (by simp)
 have hv1:=HV.out.keep c1 (by simp)
 have oq1:=old hq1
 have obox:=old hbox
 have HC1:=Vh c1
 have ca:=((Chg.refl [] w1).alloc (.cells (entc x) 201)).drew
 obtain ⟨be',cap',A',w2,happ,hv2,hbe,hc2,hqq⟩:=(hv1.keep ca (by simp)).app (ty:=170) eltREnt (oq1.chg ca) (rent_slice w1 x) (c:=1) rfl (by have:=HR.out;have:=HQ.out.2.2.2.1;omega) (by have:=HR.out;have:=HQ.out.2.2.2.1;unfold maxLen;omega)
 have hq2:w2.heap[p]? =some (.cells #[.pointer (some ⟨o,0,none⟩),.int .i64 room,.slice A es.length cap] 172 (0,0)):=by rw [hqq];exact ca.keep hq1 (by simp)
 have HV2:=Vh hv2
 have HB:=Vh hbe
 have HC2:=Vh hc2
 have HCA:=Vh ca
 clear hv1 hv2 hqq hbe hc2 ca c1
 go_region
 all_goals
  go_wp2
  go_ret
  refine ⟨rfl,be',?_,?_,⟨A',cap',?_,?_⟩,?_,HQ.out.2.2.1,HQ.out.2.2.2.1,HQ.out.2.2.2.2.1,HQ.out.2.2.2.2.2.1,HQ.out.2.2.2.2.2.2.snoc hi⟩
  ·have h1:=HB.out
   have h2:=HZ.out
   have h3:((w1.alloc (.cells (entc x) 201)).drew).heap.size=w1.heap.size+1:=by simp
   omega
  ·exact (((HC1.out.trans HCA.out).mono (l':=[p,bp]) (by simp)).trans' HC2.out (by simp)).setCell _ _ _ (.inl (by simp))
  ·simp [hq2]
  ·exact HV2.out.keep ((Chg.refl [p] w2).setCell _ _ _ (.inl (by simp))) (by have:=(HV2.out.there (by simp)).1;simpa using this)
  ·have:=HR.out;simp;omega
end
section
set_option maxRecDepth 100000
attribute [local go_sem ↓] QA QQ QH Q8 QS QC Za QN Qbx JX Qd8 Qca Qm Ql heap_alloc Qo heap_setCell Qb ZF J3
attribute [local go_sem] Qc Qa Qd Qj Qf Qe Qh Qi Qw ZE QZ Qbp QO QG Q6 Q0 Q5 Zi Q9 QM QB QI Zj Q7 Qz QP Qt Qk Qs Qr Qq Qp Qg Zb Ze lit8 XB J4 Jx Qb0 J2 Jw
attribute [local simp ↓] Qm Ql heap_alloc Qo heap_setCell Qb
attribute [local simp] Qc Qa Qd Qj Qf Qe Qh Qi Qw QB Qk Qs Qr Qq Qp Qg XB
theorem rqread_ok (p bp o bq n v room:Nat) (es:List Ent) (xs:List Int) (i:Nat) (w:World) (hq:RQue w p bp o n room es) (hd:RDev w o bq n v xs) (hi:i<n):
 Calls Tryz.prog 113 #[.pointer (some ⟨p,0,none⟩),.int .i64 i] w fun e w'=>e=.returned (.tuple #[.agg (vs (ln (over xs es) i)),.int .i64 0])∧Chg [] w w':=by
 have HQ:=Vh hq
 have hle:es.length≤16:=by have:=hq.2.1;have:=hq.2.2.2.1;omega
 obtain ⟨⟨A,cap,hq,hv⟩,_,_,_,_,hn64,hlie⟩:=hq
 have HLIE:=Vh hlie
 have HX:=Vh hd.2.2.1
 have c1:=(Chg.refl [] w).alloc (.cells (vs Jz) 36)
 have HD:=Vh (hd.keep c1 (by simp) (by simp))
 have HV:=Vh hv
 have HW:=Vh c1
 have oq:=old hq
 have obe:=(HQ.out.olde)
 clear hv hd hlie c1
 go_enter Tryz.func113,Tryz.ntmps113
 go_wp2
 go_loop [6] (fun x=>∃(k:Nat) (z:Int),k≤es.length∧z=(k:Int)-1∧x=.int .i64 z∧∀y∈es.drop k,y.pos≠i) (fun x=>(intOf x+1).toNat)
 case atStart=>exact ⟨es.length,_,by omega,rfl,rfl,by simp⟩
 case round=>
  obtain ⟨k,z,hk,hz,rfl,hno⟩:=hrel
  have HNO:=Vh hno
  clear hno
  rcases k with _|j
  ·obtain rfl:z= -1:=by omega
   clear hz
   go_wp2_with fail
   refine (rread_ok o bq n v i xs _ HD.out hi).mono ?_
   rintro e w2 ⟨rfl,c2⟩
   have hln:ln (over xs es) i=ln xs i:=Qar es xs HX.out HLIE.out (by simpa using HNO.out)
   have hf:=Yu HX.out hi
   have hl:=Qah xs i hf
   have hb2:=c2.keep (k:=w.heap.size) (x:=.cells (vs Jz) 36 (0,0)) (by simp) (by simp)
   have ob2:=old hb2
   have C2:=Vh (HW.out.trans c2)
   have HLN:=Vh hln
   clear c2 hf hln
   go_wp2
   refine bodyPost_ret (v:=.tuple #[.agg (vs (ln xs i)),.int .i64 0]) ?_ (by rfl) ?_
   ·exact Ym (by rfl) _ _ w.heap.size (ln xs i) (0,0) (by rfl) (by simp [*]) hl _ (by rfl)
   ·rw [HLN.out]
    exact ⟨rfl,C2.out.putRow _ _ _ (.inr (Nat.le_refl _))⟩
  ·obtain rfl:z=(j:Int):=by omega
   clear hz
   have hlt:j<es.length:=hk
   obtain ⟨e,he⟩:∃e,es[j]? =some e:=⟨es[j],List.getElem?_eq_getElem hlt⟩
   obtain ⟨_,rfl,r,hbe,_⟩:=HV.out.there (by omega)
   have g1:(j:Int)<(es.length:Int):=by omega
   have g0:(0:Int)≤(j:Int):=by omega
   have rc:=Qax he r
   by_cases hei:e.pos=i
   ·subst hei
    have t1:(e.pos==e.pos)=true:=by simp
    have rp:=Qf0 he r 201 (0,0)
    have ri:=Qc1 he r 201 (0,0)
    have hl:=e.h
    have hln:=Vh (ln_over_at xs HX.out HLIE.out he HNO.out)
    clear he hk
    go_wp2
    refine bodyPost_ret (v:=.tuple #[.agg (vs e.l),.int .i64 0]) ?_ (by rfl) ?_
    ·exact Ym (by rfl) _ _ w.heap.size e.l (0,0) (by rfl) (by simp [*]) hl _ (by rfl)
    ·rw [hln.out]
     exact ⟨rfl,((Chg.refl _ _).alloc _)⟩
   ·have t1:(e.pos==i)=false:=by simpa using hei
    have HN2:=Vh (drop_all he hei HNO.out)
    clear he
    go_wp2
    go_round
    case rel=>exact ⟨j,_,by omega,rfl,rfl,HN2.out⟩
    case measure=>simp [intOf]
theorem rqread_out (p bp o bq n v room:Nat) (es:List Ent) (xs:List Int) (i:Int) (w:World) (hq:RQue w p bp o n room es) (hd:RDev w o bq n v xs) (hi:¬(0≤i∧i<n)):
 Calls Tryz.prog 113 #[.pointer (some ⟨p,0,none⟩),.int .i64 i] w fun e w'=>e=.returned (.tuple #[.agg (vs Jz),.int .i64 12])∧Chg [] w w':=by
 have HQ:=Vh hq
 have HI:=Vh hi
 have hle:es.length≤16:=by have:=hq.2.1;have:=hq.2.2.2.1;omega
 obtain ⟨⟨A,cap,hq,hv⟩,_,_,_,_,hn64,hlie⟩:=hq
 have HLIE:=Vh hlie
 have c1:=(Chg.refl [] w).alloc (.cells (vs Jz) 36)
 have HD:=Vh (hd.keep c1 (by simp) (by simp))
 have HV:=Vh hv
 have oq:=old hq
 have obe:=(HQ.out.olde)
 clear hv hd hlie c1 hi
 go_enter Tryz.func113,Tryz.ntmps113
 go_wp2
 go_loop [6] (fun x=>∃(k:Nat) (z:Int),k≤es.length∧z=(k:Int)-1∧x=.int .i64 z) (fun x=>(intOf x+1).toNat)
 case atStart=>exact ⟨es.length,_,by omega,rfl,rfl⟩
 case round=>
  obtain ⟨k,z,hk,hz,rfl⟩:=hrel
  rcases k with _|j
  ·obtain rfl:z= -1:=by omega
   clear hz
   go_wp2_with fail
   refine (rread_out o bq n v i xs _ HD.out HI.out).mono ?_
   rintro e w2 ⟨rfl,c2⟩
   have hb2:=c2.keep (k:=w.heap.size) (x:=.cells (vs Jz) 36 (0,0)) (by simp) (by simp)
   have ob2:=old hb2
   have C2:=Vh (((Chg.refl [] w).alloc (.cells (vs Jz) 36)).trans c2)
   clear c2
   go_wp2
   refine bodyPost_ret (v:=.tuple #[.agg (vs Jz),.int .i64 12]) ?_ (by rfl) ?_
   ·exact Ym (by rfl) _ _ w.heap.size Jz (0,0) (by rfl) (by simp [*]) rfl _ (by rfl)
   ·exact ⟨rfl,C2.out.putRow _ _ _ (.inr (Nat.le_refl _))⟩
  ·obtain rfl:z=(j:Int):=by omega
   clear hz
   have hlt:j<es.length:=hk
   obtain ⟨e,he⟩:∃e,es[j]? =some e:=⟨es[j],List.getElem?_eq_getElem hlt⟩
   obtain ⟨_,rfl,r,hbe,_⟩:=HV.out.there (by omega)
   have g1:(j:Int)<(es.length:Int):=by omega
   have g0:(0:Int)≤(j:Int):=by omega
   have rc:=Qax he r
   have t1:((e.pos:Int)==i)=false:=by
    have h1:e.pos<n:=HLIE.out.get he
    have h2:=HI.out
    simp;omega
   clear he
   go_wp2
   go_round
   case rel=>exact ⟨j,_,by omega,rfl,rfl⟩
   case measure=>simp [intOf]
theorem weltInt:Elt Tryz.prog 59 3 1 8 (.int .i64 0) ienc where
 slice:=Tryz.underlying59
 info:=by kernel_rfl
 zero:=rfl
 zone:=by intro v hv;simp [Value.cells] at hv;rw [hv];rfl
 pos:=by omega
 len:=ienc_len
 one:=ienc_one
theorem eltLine:Elt Tryz.prog 24 36 8 64 (.agg (vs Jz)) lenc where
 slice:=Tryz.underlying24
 info:=JP
 zero:=rfl
 zone:=by intro v hv;simp [Value.cells,vs,Jz] at hv;rw [hv];rfl
 pos:=by omega
 len:=lenc_len
 one:=lenc_one
theorem rqlines_ok (p bp o n room:Nat) (es:List Ent) (w:World) (hq:RQue w p bp o n room es):Calls Tryz.prog 70 #[.pointer (some ⟨p,0,none⟩)] w (WTold w (poss es)):=by
 have HQ:=Vh hq
 have hle:es.length≤16:=by have:=hq.2.1;have:=hq.2.2.2.1;omega
 obtain ⟨⟨A,cap,hq,hv⟩,_⟩:=hq
 have HV:=Vh hv
 have HP:=Vh hq
 clear hv
 go_enter Tryz.func70,Tryz.ntmps70
 go_wp2
 go_loopw [3,4] (fun s i wr=>∃(k be cp:Nat) (B:Option Addr),k≤es.length∧i=.int .i64 k∧s=.slice B k cp∧Chg [] w wr∧Vec 1 3 ienc wr p be B cp ((poss es).take k)∧(be=p∨w.heap.size≤be)) (fun _ i _=>es.length-(intOf i).toNat)
 case atStart=>exact ⟨0,p,0,none,by omega,rfl,rfl,Chg.refl _ _,by rw [List.take_zero];exact Vec.nil _ _ _ _ _,.inl rfl⟩
 case round=>
  obtain ⟨k,be,cp,B,hk,rfl,rfl,hc,hvb,hbe⟩:=hrel
  have hpr:=hc.keep HP.out (by simp)
  have oq:=old hpr
  by_cases hlt:k<es.length
  ·obtain ⟨e,he⟩:∃e,es[k]? =some e:=⟨es[k],List.getElem?_eq_getElem hlt⟩
   obtain ⟨_,rfl,r,hbp,_⟩:=HV.out.there (by omega)
   have hbr:=hc.keep hbp (by simp)
   have obe:=old hbr
   have g1:(k:Int)<(es.length:Int):=by omega
   have g0:(0:Int)≤(k:Int):=by omega
   have rc:=Qax he r
   have hsl:Sl (wr.alloc (.cells #[.int .i64 e.pos] 3)) 1 (some ⟨wr.heap.size,0,none⟩) 1 (cat ienc [(e.pos:Int)]):=⟨rfl,.inr ⟨wr.heap.size,0,#[.int .i64 e.pos],3,(0,0),rfl,by simp,rfl⟩⟩
   have hkl:((poss es).take k).length=k:=by rw [List.length_take,YO];omega
   obtain ⟨be',cap',A',w2,happ,hv2,hbe2,hc2⟩:=Vec.acc (ty:=59) weltInt (hc.alloc (.cells #[.int .i64 e.pos] 3)) (hvb.keep ((Chg.refl [] wr).alloc (.cells #[.int .i64 e.pos] 3)) (by simp)) hbe (old HP.out) hsl (c:=1) rfl (by rw [hkl];omega) (by rw [hkl];unfold maxLen;omega)
   rw [hkl] at happ
   have hs:(poss es).take k++[(e.pos:Int)]=(poss es).take (k+1):=by rw [List.take_add_one];simp [poss,he]
   rw [hs] at hv2
   have HV2:=Vh hv2
   have HB2:=Vh hbe2
   have HC2:=Vh hc2
   clear hvb hbe hc hv2 hbe2 hc2 hsl hkl hs he hbp
   go_wp2
   go_roundw
   case rel=>exact ⟨k+1,be',cap',A',by omega,by go_num,rfl,HC2.out,HV2.out,HB2.out⟩
   case measure=>simp [intOf];omega
  ·have:k=es.length:=by omega
   subst this
   have hs:(poss es).take es.length=poss es:=List.take_of_length_le (by rw [YO];omega)
   rw [hs] at hvb
   have hsl:=hvb.sl ienc_len
   rw [cat_ienc,YO] at hsl
   have HSL:=Vh hsl
   clear hvb hbe hs hsl
   go_wp2
   go_ret
   exact ⟨B,cp,by rw [YO];rfl,by rw [YO];exact HSL.out,hc⟩
end
section
set_option maxRecDepth 100000
attribute [local go_sem ↓] QA QQ QH Q8 QS QC Za QN Qbx JX Qd8 Qca Qm Ql heap_alloc Qo heap_setCell Qb ZF J3
attribute [local go_sem] Qc Qa Qd Qj Qf Qe Qh Qi Qw ZE QZ Qbp QO QG Q6 Q0 Q5 Zi Q9 QM QB QI Zj Q7 Qz QP Qt Qk Qs Qr Qq Qp Qg Zb Ze lit8 XB J4 Jx Qb0 J2 Jw fold_vs
attribute [local simp ↓] Qm Ql heap_alloc Qo heap_setCell Qb
attribute [local simp] Qc Qa Qd Qj Qf Qe Qh Qi Qw QB Qk Qs Qr Qq Qp Qg XB
def ToldLines (w0:World) (n:Nat) (xs:List Int) (e:Ending) (w':World):Prop:=∃b c,e=.returned (.slice (some ⟨b,0,none⟩) n c)∧Sl w' 8 (some ⟨b,0,none⟩) n (xs.map (Value.int .u64))∧Chg [] w0 w'
theorem rqimage_ok (p bp o bq n v room:Nat) (es:List Ent) (xs:List Int) (w:World) (hq:RQue w p bp o n room es) (hd:RDev w o bq n v xs):Calls Tryz.prog 72 #[.pointer (some ⟨p,0,none⟩)] w (ToldLines w n (over xs es)):=by
 have HQ:=Vh hq
 have HD:=Vh hd
 have hle:es.length≤16:=by have:=hq.2.1;have:=hq.2.2.2.1;omega
 obtain ⟨⟨A,cap,hq,hv⟩,_,_,_,hn2,hn64,hlie⟩:=hq
 have HLX:=Vh (Qaf es xs hd.2.2.1 hlie)
 have HP:=Vh hq
 obtain ⟨⟨co,hdo⟩,_⟩:=hd
 have HDO:=Vh hdo
 clear hv hlie
 go_enter Tryz.func72,Tryz.ntmps72
 go_wp2
 go_loopw [3,4] (fun s i wr=>∃(k be cp:Nat) (B:Option Addr),k≤n∧i=.int .i64 k∧s=.slice B k cp∧Chg [] w wr∧Vec 8 36 lenc wr p be B cp (lns (over xs es) k)∧(be=p∨w.heap.size≤be)) (fun _ i _=>n-(intOf i).toNat)
 case atStart=>exact ⟨0,p,0,none,by omega,rfl,rfl,Chg.refl _ _,Vec.nil _ _ _ _ _,.inl rfl⟩
 case round=>
  obtain ⟨k,be,cp,B,hk,rfl,rfl,hc,hvb,hbe⟩:=hrel
  have hpr:=hc.keep HP.out (by simp)
  have hdr:=hc.keep HDO.out (by simp)
  have oq:=old hpr
  have od:=old hdr
  by_cases hlt:k<n
  ·have g1:(k:Int)<(n:Int):=by omega
   have g0:(0:Int)≤(k:Int):=by omega
   have HC:=Vh hc
   have HVB:=Vh hvb
   have HBE:=Vh hbe
   clear hvb hbe hc
   go_wp2_with fail
   refine (rqread_ok p bp o bq n v room es xs k _ (HQ.out.keep HC.out (by simp) (by simp)) (HD.out.keep HC.out (by simp) (by simp)) hlt).mono ?_
   rintro e w1 ⟨rfl,c1⟩
   have hl8:=Qah _ k (Yu HLX.out hlt)
   have hlo:(lnOf (over xs es) k).val=ln (over xs es) k:=lnOf_val _ k HLX.out hlt
   have ca:=(((HC.out.trans c1).alloc (.cells (vs (ln (over xs es) k)) 36)).alloc (.cells (vs (ln (over xs es) k)) 36))
   have hsl:Sl ((w1.alloc (.cells (vs (ln (over xs es) k)) 36)).alloc (.cells (vs (ln (over xs es) k)) 36)) 8 (some ⟨w1.heap.size+1,0,none⟩) 1 (cat lenc [lnOf (over xs es) k]):=⟨by rw [Zo lenc_len];rfl,.inr ⟨w1.heap.size+1,0,vs (ln (over xs es) k),36,(0,0),rfl,by simp,by rw [JV];unfold lenc;rw [hlo];simp [vs,List.take_of_length_le,hl8]⟩⟩
   have hkl:=Qez (over xs es) k
   obtain ⟨be',cap',A',w2,happ,hv2,hbe2,hc2⟩:=Vec.acc (ty:=24) eltLine ca (HVB.out.keep (((c1).alloc (.cells (vs (ln (over xs es) k)) 36)).alloc (.cells (vs (ln (over xs es) k)) 36)) (by simp)) HBE.out (old HP.out) hsl (c:=1) rfl (by rw [hkl];omega) (by rw [hkl];unfold maxLen;omega)
   rw [hkl] at happ
   rw [lns_succ] at hv2
   have HV2:=Vh hv2
   have HB2:=Vh hbe2
   have HC2:=Vh hc2
   clear hv2 hbe2 hc2 hsl hkl hlo ca c1
   go_wp2
   go_roundw
   case rel=>exact ⟨k+1,be',cap',A',by omega,by go_num,rfl,HC2.out,HV2.out,HB2.out⟩
   case measure=>simp [intOf];omega
  ·have:k=n:=by omega
   subst this
   obtain ⟨_,rfl,_⟩:=hvb.there (by rw [Qez];omega)
   have hsl:=hvb.sl lenc_len
   rw [cat_lns_all _ HLX.out,Qez] at hsl
   have HSL:=Vh hsl
   clear hvb hbe hsl
   go_wp2
   go_ret
   exact ⟨be,cp,rfl,HSL.out,hc⟩
def RApart (p bp o bq:Nat):Prop:=p≠o∧p≠bq∧bp≠o∧bp≠bq
theorem rdrain_none (p bp o n room:Nat) (es:List Ent) (i:Int) (w:World) (hq:RQue w p bp o n room es) (hi:∀e∈es,(e.pos:Int)≠i):
 Calls Tryz.prog 122 #[.pointer (some ⟨p,0,none⟩),.int .i64 i] w fun e w'=>e=.returned (.int .i64 14)∧w=w':=by
 have HQ:=Vh hq
 have HI:=Vh hi
 have hle:es.length≤16:=by have:=hq.2.1;have:=hq.2.2.2.1;omega
 obtain ⟨⟨A,cap,hq,hv⟩,_⟩:=hq
 have HV:=Vh hv
 clear hv hi
 go_enter Tryz.func122,Tryz.ntmps122
 go_wp2
 go_loop [5] (fun x=>∃k:Nat,k≤es.length∧x=.int .i64 k) (fun x=>es.length-(intOf x).toNat)
 case atStart=>exact ⟨0,by omega,rfl⟩
 case round=>
  obtain ⟨k,hk,rfl⟩:=hrel
  by_cases hlt:k<es.length
  ·obtain ⟨e,he⟩:∃e,es[k]? =some e:=⟨es[k],List.getElem?_eq_getElem hlt⟩
   obtain ⟨_,rfl,r,hbe,_⟩:=HV.out.there (by omega)
   have g1:(k:Int)<(es.length:Int):=by omega
   have g0:(0:Int)≤(k:Int):=by omega
   have rc:=Qax he r
   have t1:((e.pos:Int)==i)=false:=by simpa using HI.out e (List.mem_of_getElem? he)
   clear he
   go_wp2
   go_round
   case rel=>exact ⟨k+1,by omega,by go_num⟩
   case measure=>simp [intOf];omega
  ·have:k=es.length:=by omega
   subst this
   go_wp2
   go_ret
   exact ⟨rfl,rfl⟩
theorem append_cut (w:World) (p bp i cap:Nat) (A:Option Addr) (es:List Ent) (hp:Old w p) (hv:Vec 9 201 Ent.enc w p bp A cap es) (hi:i<es.length) (h16:es.length≤16):
 ∃(A1 A2:Option Addr) (c1 c2 b2:Nat) (w1 w2:World),
  appR Tryz.prog 170 170 #[.slice (some ⟨w.heap.size,0,none⟩) 0 0,.slice A i cap] (w.alloc (.cells #[] 201))=.ok (.slice A1 i c1) w1∧
  appR Tryz.prog 170 170 #[.slice A1 i c1,.slice (if cap=i+1 then A else A.map (·.add ((i+1)*9))) (es.length-(i+1)) (cap-(i+1))] w1=.ok (.slice A2 (es.length-1) c2) w2∧
  Chg [] w w1∧Chg [] w w2∧w.heap.size≤b2∧Vec 9 201 Ent.enc w2 p b2 A2 c2 (es.eraseIdx i):=by
 have hle:=hv.le
 have ca:=(Chg.refl [] w).alloc (.cells #[] 201)
 have h0:Vec 9 201 Ent.enc (w.alloc (.cells #[] 201)) p w.heap.size (some ⟨w.heap.size,0,none⟩) 0 []:=.inr ⟨by have:=hp.lt;omega,rfl,by simp,[],by rw [heap_alloc];simp [sq,cat_nil],by simp⟩
 have hti:(es.take i).length=i:=by rw [List.length_take];omega
 obtain ⟨b1,c1,A1,w1,e1,v1,n1,g1⟩:=h0.app (ty:=170) eltREnt (hp.chg ca) ((hv.keep ca (by simp)).slTo Ent.len (Nat.le_of_lt hi)) (c:=cap) hti (by simp;omega) (by simp [maxLen];omega)
 have hb1:w.heap.size≤b1:=by
  have:=ca.size
  rcases n1 with h|h<;>omega
 have hc1:Chg [] w w1:=ca.trans' g1.1 (by simp)
 have hv1:Vec 9 201 Ent.enc w1 p bp A cap es:=hv.keep hc1 (by simp)
 rw [List.nil_append] at v1
 simp only [List.length_nil,Nat.zero_add] at e1
 have hdi:(es.drop (i+1)).length=es.length-(i+1):=List.length_drop
 have hs2:Sl w1 9 (if cap=i+1 then A else A.map (·.add ((i+1)*9))) (es.length-(i+1)) (cat Ent.enc (es.drop (i+1))):=by
  split
  ·exact ⟨by rw [Zo Ent.len,hdi],.inl (by omega)⟩
  ·obtain ⟨_,rfl,_⟩:=hv1.there (by omega)
   rw [Option.map_some,Addr.add_mid,Nat.zero_add]
   exact hv1.slFrom Ent.len (by omega)
 obtain ⟨b2,c2,A2,w2,e2,v2,n2,g2⟩:=v1.app (ty:=170) eltREnt (hp.chg hc1) hs2 (c:=cap-(i+1)) hdi (by rw [hti];omega) (by rw [hti];unfold maxLen;omega)
 rw [hti,show i+(es.length-(i+1))=es.length-1 by omega] at e2
 rw [←erase_at] at v2
 refine ⟨A1,A2,c1,c2,b2,w1,w2,e1,e2,hc1,hc1.trans' g2.1 (by simpa using hb1),?_,v2⟩
 have:=hc1.size
 rcases n2 with h|h<;>omega
def RQDrain (w:World) (p bp o bq n v room:Nat) (es:List Ent) (xs:List Int) (e:Ending) (w':World):Prop:=
 e=.returned (.int .i64 0)∧∃bp',w.heap.size≤bp'∧Chg [p,bq] w w'∧RQue w' p bp' o n room es∧RDev w' o bq n v xs
theorem rdrain_ok (p bp o bq n v room:Nat) (es:List Ent) (xs:List Int) (j:Nat) (x:Ent) (w:World) (hq:RQue w p bp o n room es) (hd:RDev w o bq n v xs) (ha:RApart p bp o bq) (hx:es[j]? =some x) (hi:∀e∈es.take j,(e.pos:Int)≠(x.pos:Int)):
 Calls Tryz.prog 122 #[.pointer (some ⟨p,0,none⟩),.int .i64 x.pos] w (RQDrain w p bp o bq n v room (es.eraseIdx j) (YL xs x.pos x.l)):=by
 have HQ:=Vh hq
 have HI:=Vh hi
 have HA:=Vh ha
 have HD:=Vh hd
 have HX:=Vh hx
 have hle:es.length≤16:=by have:=hq.2.1;have:=hq.2.2.2.1;omega
 obtain ⟨⟨A,cap,hq,hv⟩,_⟩:=hq
 have HV:=Vh hv
 have hjl:j<es.length:=(Vg hx).1
 clear hv hi ha hd hx
 go_enter Tryz.func122,Tryz.ntmps122
 go_wp2
 go_loop [5] (fun y=>∃k:Nat,k≤j∧y=.int .i64 k) (fun y=>es.length-(intOf y).toNat)
 case atStart=>exact ⟨0,by omega,rfl⟩
 case round=>
  obtain ⟨k,hk,rfl⟩:=hrel
  obtain ⟨_,rfl,r,hbe,_⟩:=HV.out.there (by omega)
  have g1:(k:Int)<(es.length:Int):=by omega
  have g0:(0:Int)≤(k:Int):=by omega
  by_cases hkj:k<j
  ·obtain ⟨e,he⟩:∃e,es[k]? =some e:=⟨es[k]'(by omega),List.getElem?_eq_getElem (by omega)⟩
   have rc:=Qax he r
   have t1:(e.pos==x.pos)=false:=by
    have:=HI.out e (List.mem_of_getElem? (show (es.take j)[k]? =some e by rw [List.getElem?_take_of_lt hkj];exact he))
    simp;omega
   clear he
   go_wp2
   go_round
   case rel=>exact ⟨k+1,by omega,by go_num⟩
   case measure=>simp [intOf];omega
  ·obtain rfl:k=j:=by omega
   have rc:=Qax HX.out r
   have rp:=Qf0 HX.out r 201 (0,0)
   have ri:=Qc1 HX.out r 201 (0,0)
   have t1:(x.pos==x.pos)=true:=by simp
   have hx8:=x.h
   clear hkj hk
   go_wp2_with fail
   go_region_held3 (fun w'=>w'.heap[p]? =some (.cells #[.pointer (some ⟨o,0,none⟩),.int .i64 room,.slice (some ⟨bp,0,none⟩) es.length cap] 172 (0,0))∧w'.heap[bp]? =some (.cells (sq Ent.enc es r) 201 (0,0))) (first |exact ⟨hq,hbe⟩|exact ⟨c2.keep hq (by have:=HA.out.2.1;simpa using this),c2.keep hbe (by have:=HA.out.2.2.2;simpa using this)⟩)
    ((go_at_call 191;refine (rwrite_ok o bq n v x.pos x.l xs _ (HD.out.keep ((Chg.refl [] w).drew) (by simp) (by simp)) (HQ.out.2.2.2.2.2.2.get HX.out) hx8).mono ?_;rintro e w' ⟨rfl,c2,d2⟩))
   all_goals
    have C2:=Vh ((Chg.refl [bq] w).drew.trans c2)
    have D2:=Vh d2
    have hq2:=C2.out.keep hq (by have:=HA.out.2.1;simpa using this)
    have V2:=Vh (HV.out.keep C2.out (by have:=HA.out.2.2.2;simpa using this))
    clear c2 d2 hbe
    rename World=>w2
    have oq2:=old hq2
    obtain ⟨A1,A2,ca,cb,b2,w3,w4,e1,e2,gg1,gg2,hb2,v4⟩:=append_cut w2.drew p bp k cap _ es (oq2.chg (Chg.refl [] w2).drew) (V2.out.keep (Chg.refl [] w2).drew (by simp)) hjl hle
    have ea:appR Tryz.prog 170 170 #[.slice (some ⟨w2.heap.size,0,none⟩) 0 0,.slice (some ⟨bp,0,none⟩) k cap] (w2.alloc (.cells #[] 201)).drew=.ok (.slice A1 k ca) w3:=e1
    have hq3:=((Chg.refl [] w2).drew.trans gg1).keep hq2 (by simp)
    have hq4:=((Chg.refl [] w2).drew.trans gg2).keep hq2 (by simp)
    have oq4:=old hq4
    have V4:=Vh v4
    have G2:=Vh ((Chg.refl [] w2).drew.trans gg2)
    have HB2:=Vh (show w2.heap.size≤b2 from hb2)
    have g2:(k:Int)+1≤(es.length:Int):=by omega
    have g3:(k:Int)≤(cap:Int):=by have:=V2.out.le;omega
    have eb:appR Tryz.prog 170 170 #[.slice A1 k ca,.slice (if cap=k+1 then some ⟨bp,0,none⟩ else some ⟨bp,(k+1)*9,none⟩) (es.length-(k+1)) (cap-(k+1))] w3=.ok (.slice A2 (es.length-1) cb) w4:=by
     rw [Option.map_some,Addr.add_mid,Nat.zero_add] at e2
     exact e2
    clear e1 e2 gg1 gg2 v4 hb2
    go_wp2_with fail
    go_region
    all_goals
     have hb2:=HB2.out
     have hz:=C2.out.size
     have hle2:=old (HD.out.1.choose_spec)
     have hleb:=old (HD.out.2.1.choose_spec)
     have hn:es.length-1=(es.eraseIdx k).length:=by rw [List.length_eraseIdx,if_pos hjl]
     have D4:=Vh (D2.out.keep ((G2.out.mono (l':=[p]) (by simp)).setCell p 2 (.slice A2 (es.length-1) cb) (.inl (by simp))) (by have:=HA.out.1;simp;omega) (by have:=HA.out.2.1;simp;omega))
     have V5:=Vh (V4.out.keep ((Chg.refl [p] w4).setCell p 2 (.slice A2 (es.length-1) cb) (.inl (by simp))) (by have:=(oq2.lt);simp;omega))
     have C5:=Vh ((((C2.out.mono (l':=[p,bq]) (by simp)).trans' G2.out (by simp))).setCell p 2 (.slice A2 (es.length-1) cb) (.inl (by simp)))
     have HN:=Vh hn
     have HB3:=Vh (show w.heap.size≤b2 by omega)
     clear hn hb2 hz hle2 hleb
     go_wp2_with fail
     all_goals
      go_ret
      refine ⟨rfl,b2,HB3.out,C5.out,⟨⟨A2,cb,?_,V5.out⟩,by rw [←HN.out];have:=HQ.out.2.1;omega,HQ.out.2.2.1,HQ.out.2.2.2.1,HQ.out.2.2.2.2.1,HQ.out.2.2.2.2.2.1,HQ.out.2.2.2.2.2.2.sub (fun y hy=>List.mem_of_mem_eraseIdx hy)⟩,D4.out⟩
      rw [←HN.out]
      simp [hq4]
def RQFail (w:World) (p o bq n v room:Nat) (xs:List Int) (e:Ending) (w':World):Prop:=
 e=.returned (.tuple #[])∧Chg [p,bq] w w'∧RQue w' p p o n room []∧RDev w' o bq n v xs
theorem rqfail_ok (p bp o bq n v room:Nat) (es:List Ent) (xs:List Int) (w:World) (hq:RQue w p bp o n room es) (hd:RDev w o bq n v xs) (ha:RApart p bp o bq):
 Calls Tryz.prog 123 #[.pointer (some ⟨p,0,none⟩)] w (RQFail w p o bq n v room (XE (over xs es) v)):=by
 have HQ:=Vh hq
 have HA:=Vh ha
 have HD:=Vh hd
 have hle:es.length≤16:=by have:=hq.2.1;have:=hq.2.2.2.1;omega
 obtain ⟨⟨A,cap,hq,hv⟩,_⟩:=hq
 have HV:=Vh hv
 have HP:=Vh hq
 clear hv ha hd
 go_enter Tryz.func123,Tryz.ntmps123
 go_wp2
 go_loopw [2] (fun y wr=>∃k:Nat,k≤es.length∧y=.int .i64 k∧Chg [bq] w wr∧RDev wr o bq n v (over xs (es.take k))) (fun y _=>es.length-(intOf y).toNat)
 case atStart=>exact ⟨0,by omega,rfl,Chg.refl _ _,by rw [List.take_zero];exact HD.out⟩
 case round=>
  obtain ⟨k,hk,rfl,hc,hd⟩:=hrel
  have hqr:=hc.keep HP.out (by have:=HA.out.2.1;simp;omega)
  have oqr:=old hqr
  by_cases hlt:k<es.length
  ·obtain ⟨e,he⟩:∃e,es[k]? =some e:=⟨es[k],List.getElem?_eq_getElem hlt⟩
   obtain ⟨_,rfl,r,hbe,_⟩:=HV.out.there (by omega)
   have hbr:=hc.keep hbe (by have:=HA.out.2.2.2;simp;omega)
   have obe:=old hbr
   have g1:(k:Int)<(es.length:Int):=by omega
   have g0:(0:Int)≤(k:Int):=by omega
   have rc:=Qax he r
   have rp:=Qf0 he r 201 (0,0)
   have ri:=Qc1 he r 201 (0,0)
   have he8:=e.h
   have HC:=Vh hc
   have HDR:=Vh hd
   have HEN:=Vh (HQ.out.2.2.2.2.2.2.get he)
   have hs:=Vh (show YL (over xs (es.take k)) e.pos e.l=over xs (es.take (k+1)) by rw [←Qd3,List.take_add_one,he];rfl)
   clear hbe hc hd he
   go_wp2_with fail
   go_region_held3 (fun w'=>w'.heap[p]? =some (.cells #[.pointer (some ⟨o,0,none⟩),.int .i64 room,.slice (some ⟨bp,0,none⟩) es.length cap] 172 (0,0))∧w'.heap[bp]? =some (.cells (sq Ent.enc es r) 201 (0,0))) (first |exact ⟨hqr,hbr⟩|exact ⟨c2.keep hqr (by have:=HA.out.2.1;simpa using this),c2.keep hbr (by have:=HA.out.2.2.2;simpa using this)⟩)
    ((go_at_call 191;refine (rwrite_ok o bq n v e.pos e.l (over xs (es.take k)) _ (HDR.out.keep ((Chg.refl [] wr).drew) (by simp) (by simp)) HEN.out he8).mono ?_;rintro e w' ⟨rfl,c2,d2⟩))
   all_goals
    have D2:=Vh d2
    have C2:=Vh (HC.out.drew.trans c2)
    clear c2 d2
    go_wp2_with fail
    go_roundw
    case rel=>exact ⟨k+1,by omega,by go_num,C2.out,by rw [←hs.out];exact D2.out⟩
    case measure=>simp [intOf];omega
  ·obtain rfl:k=es.length:=by omega
   have HC:=Vh hc
   have HDR:=Vh (show RDev wr o bq n v (over xs es) by rw [List.take_length] at hd;exact hd)
   have C1:=Vh ((Chg.refl [p] wr).setCell p 2 (.slice none 0 0) (.inl (by simp)))
   have D1:=Vh (HDR.out.keep C1.out (by have:=HA.out.1;simp;omega) (by have:=HA.out.2.1;simp;omega))
   clear hc hd
   go_wp2_with fail
   refine (rfail_ok o bq n v (over xs es) _ D1.out).mono ?_
   rintro e w3 ⟨rfl,c3,d3⟩
   have hp1:(wr.setCell ⟨p,2,none⟩ (.slice none 0 0)).heap[p]? =some (.cells #[.pointer (some ⟨o,0,none⟩),.int .i64 room,.slice none 0 0] 172 (0,0)):=by simp [hqr]
   have hp3:=c3.keep hp1 (by have:=HA.out.2.1;simp;omega)
   have HP3:=Vh hp3
   have C3:=Vh (((HC.out.mono (l':=[p,bq]) (by simp)).trans' C1.out (by simp)).trans' c3 (by simp))
   have D3:=Vh d3
   clear c3 d3 hp1 hp3
   go_wp2_with fail
   go_end0
   exact ⟨rfl,C3.out,⟨⟨none,0,HP3.out,Vec.nil _ _ _ _ _⟩,by simp,HQ.out.2.2.1,HQ.out.2.2.2.1,HQ.out.2.2.2.2.1,HQ.out.2.2.2.2.2.1,Lie.nil n⟩,D3.out⟩
end
section
set_option maxRecDepth 100000
attribute [local go_sem ↓] QA QQ QH Q8 QS QC Za QN Qbx JX Qd8 Qca Qm Ql heap_alloc Qo heap_setCell Qb ZF J3
attribute [local go_sem] Qc Qa Qd Qj Qf Qe Qh Qi Qw ZE QZ Qbp QO QG Q6 Q0 Q5 Zi Q9 QM QB QI Zj Q7 Qz QP Qt Qk Qs Qr Qq Qp Qg Zb Ze lit8 XB J4 Jx Qb0 J2 Jw fold_vs
attribute [local simp ↓] Qm Ql heap_alloc Qo heap_setCell Qb
attribute [local simp] Qc Qa Qd Qj Qf Qe Qh Qi Qw QB Qk Qs Qr Qq Qp Qg XB
theorem ints_same (A B:Option Addr) (n c c':Nat) (xs:List Int) (w:World) (h1:Sl w 1 A n (xs.map (Value.int .i64))) (h2:Sl w 1 B n (xs.map (Value.int .i64))) (hn:n≤100000):
 Calls Tryz.prog 69 #[.slice A n c,.slice B n c'] w fun e w'=>e=.returned (.bool true)∧Chg [] w w':=by
 have H1:=Vh h1
 have H2:=Vh h2
 have HL:=Vh (show xs.length=n by simpa using h1.1)
 clear h1 h2
 go_enter Tryz.func69,Tryz.ntmps69
 go_wp2
 go_loopw [5] (fun i wr=>∃k:Nat,k≤n∧i=.int .i64 k∧Chg [] w wr) (fun i _=>n-(intOf i).toNat)
 case atStart=>exact ⟨0,by omega,rfl,Chg.refl _ _⟩
 case round=>
  obtain ⟨k,hk,rfl,hc⟩:=hrel
  by_cases hlt:k<n
  ·obtain ⟨b,o,rfl⟩:=H1.out.addr (by omega)
   obtain ⟨b',o',rfl⟩:=H2.out.addr (by omega)
   obtain ⟨cs,t,f,hb,hi⟩:=(H1.out.chg hc (by simp)).cell hlt
   obtain ⟨cs',t',f',hb',hi'⟩:=(H2.out.chg hc (by simp)).cell hlt
   obtain ⟨y,hy⟩:∃y,(xs.map (Value.int .i64))[k]? =some (.int .i64 y):=⟨xs[k]'(by rw [HL.out];exact hlt),by rw [List.getElem?_map,List.getElem?_eq_getElem (by rw [HL.out];exact hlt)];rfl⟩
   rw [hy] at hi hi'
   have g1:(k:Int)<(n:Int):=by omega
   have g0:(0:Int)≤(k:Int):=by omega
   have g2:(n:Int)≤100000:=by omega
   clear hy
   go_wp2
   go_quiet (fail)
   go_wp2
   go_roundw
   case rel=>exact ⟨k+1,by omega,by go_num,hc.drewN _⟩
   case measure=>simp [intOf];omega
  ·have:k=n:=by omega
   subst this
   go_wp2
   go_ret
   exact ⟨rfl,hc⟩
def Sys (W w:World) (q be g b n v room:Nat) (es:List Ent) (xs:List Int):Prop:=
 Chg [] W w∧Que w q be g n room es∧Dev w g b n v xs∧Apart q be g b∧W.heap.size≤q∧W.heap.size≤be∧W.heap.size≤g∧W.heap.size≤b
theorem Sys.keep {W w w':World} {q be g b n v room:Nat} {es:List Ent} {xs:List Int} (h:Sys W w q be g b n v room es xs) (hc:Chg [] w w'):Sys W w' q be g b n v room es xs:=
 ⟨h.1.trans hc,h.2.1.keep hc (by simp) (by simp),h.2.2.1.keep hc (by simp) (by simp),h.2.2.2⟩
def SysTo (W w:World) (q be g b n v room:Nat) (es:List Ent) (xs:List Int) (val:Value) (e:Ending) (w':World):Prop:=
 e=.returned val∧∃be',Sys W w' q be' g b n v room es xs∧Chg [q,be,g,b] w w'∧(be'=be∨w.heap.size≤be')
theorem Sys.in4 {W w:World} {q be g b n v room:Nat} {es:List Ent} {xs:List Int} (h:Sys W w q be g b n v room es xs):∀x∈[q,be,g,b],x∈([]:List Nat)∨W.heap.size≤x:=by
 intro x hx
 have:=h.2.2.2.2
 simp only [List.mem_cons,Vn,or_false] at hx
 rcases hx with rfl|rfl|rfl|rfl
 ·exact .inr this.1
 ·exact .inr this.2.1
 ·exact .inr this.2.2.1
 ·exact .inr this.2.2.2
theorem Dev.oldg {w:World} {g b n v:Nat} {xs:List Int} (h:Dev w g b n v xs):g<w.heap.size:=(old h.1.choose_spec.choose_spec).lt
theorem Dev.oldb {w:World} {g b n v:Nat} {xs:List Int} (h:Dev w g b n v xs):b<w.heap.size:=(old h.2.1).lt
section
variable {W w:World} {q be g b n v room:Nat} {es:List Ent} {xs:List Int} (h:Sys W w q be g b n v room es xs)
include h
theorem Sys.size:xs.length=n*8:=h.2.2.1.2.2.1
theorem Sys.n2:2≤n:=h.2.1.2.2.2.2.1
theorem Sys.new4 {k:Nat} (hk:w.heap.size≤k):k∉[q,be,g,b]:=by
 have h1:=h.2.1.oldq.lt
 have h2:=h.2.1.olde.lt
 have h3:=h.2.2.1.oldg
 have h4:=h.2.2.1.oldb
 simp;omega
theorem sys_push (x:Ent) (hi:x.pos<n) (hr:es.length<room):Calls Tryz.prog 136 #[.pointer (some ⟨q,0,none⟩),.int .i64 x.pos,.agg (vs x.l)] w (SysTo W w q be g b n v room (es++[x]) xs (.int .i64 0)):=
 (push_ok q be g n room es x w h.2.1 hi hr).mono fun e w' ⟨he,be',hb,hc,hq⟩=>by
  have ha:=h.2.2.2.1
  have hd:=h.2.2.1
  have hg:=hd.oldg
  have hgb:=hd.oldb
  have hn:=h.2.2.2.2
  have hw:=h.1.size
  obtain ⟨a1,a2,a3,a4⟩:=ha
  refine ⟨he,be',⟨?_,hq,hd.keep hc (by simp;omega) (by simp;omega),⟨a1,a2,?_,?_⟩,hn.1,?_,hn.2.2⟩,hc.mono (by simp),hb⟩
  ·exact h.1.trans' hc (by simp;omega)
  ·rcases hb with rfl|hb<;>omega
  ·rcases hb with rfl|hb<;>omega
  ·rcases hb with rfl|hb<;>omega
theorem sys_drain (x:Ent) (j:Nat) (hx:es[j]? =some x) (hi:∀e∈es.take j,(e.pos:Int)≠(x.pos:Int)):Calls Tryz.prog 106 #[.pointer (some ⟨q,0,none⟩),.int .i64 x.pos] w (SysTo W w q be g b n v room (es.eraseIdx j) (YL xs x.pos x.l) (.int .i64 0)):=
 (drain_ok q be g b n v room es xs j x w h.2.1 h.2.2.1 h.2.2.2.1 hx hi).mono fun e w' ⟨he,hc,hq,hd⟩=>⟨he,be,⟨h.1.trans' hc h.in4,hq,hd,h.2.2.2⟩,hc,.inl rfl⟩
theorem sys_fail:Calls Tryz.prog 78 #[.pointer (some ⟨q,0,none⟩)] w (SysTo W w q be g b n v room [] (XE (Go.Proofs.YtadeoflkppiflaaGreatDoor.over xs es) v) (.tuple #[])):=
 (qfail_ok q be g b n v room es xs w h.2.1 h.2.2.1 h.2.2.2.1).mono fun e w' ⟨he,hc,hq,hd⟩=>⟨he,be,⟨h.1.trans' hc h.in4,hq,hd,h.2.2.2⟩,hc,.inl rfl⟩
theorem sys_read (i:Nat) (hi:i<n):Calls Tryz.prog 147 #[.pointer (some ⟨q,0,none⟩),.int .i64 i] w (SysTo W w q be g b n v room es xs (.tuple #[.agg (vs (ln (Go.Proofs.YtadeoflkppiflaaGreatDoor.over xs es) i)),.int .i64 0])):=
 (qread_ok q be g b n v room es xs i w h.2.1 h.2.2.1 hi).mono fun e w' ⟨he,hc,hd⟩=>by
  obtain ⟨a1,a2,a3,a4⟩:=h.2.2.2.1
  exact ⟨he,be,⟨h.1.trans' hc (by have:=h.2.2.2.2;simp;omega),h.2.1.keep hc (by simp;omega) (by simp;omega),hd,h.2.2.2⟩,hc.mono (by simp),.inl rfl⟩
end
theorem wsys_new (W:World) (n v room:Nat) (w:World) (g b:Nat) (xs:List Int) (hc:Chg [] W w) (hd:Dev w g b n v xs) (hg:W.heap.size≤g) (hb:W.heap.size≤b) (h1:1≤room) (h2:room≤16):
 Calls Tryz.prog 42 #[.pointer (some ⟨g,0,none⟩),.int .i64 room] w fun e w'=>∃q,e=.returned (.tuple #[.pointer (some ⟨q,0,none⟩),.int .i64 0])∧Sys W w' q q g b n v room [] xs∧Chg [] w w'∧w.heap.size≤q:=
 (qnew_ok g b n v room xs w hd h1 h2).mono fun e w' ⟨q,he,hq,hc',hqq⟩=>by
  have h3:=hd.oldg
  have h4:=hd.oldb
  have h5:=hc.size
  exact ⟨q,he,⟨hc.trans hc',hqq,hd.keep hc' (by simp) (by simp),⟨by omega,by omega,by omega,by omega⟩,by omega,by omega,hg,hb⟩,hc',hq⟩
end
section
set_option maxRecDepth 100000
attribute [local go_sem ↓] QA QQ QH Q8 QS QC Za QN Qbx JX Qd8 Qca Qm Ql heap_alloc Qo heap_setCell Qb ZF J3
attribute [local go_sem] Qc Qa Qd Qj Qf Qe Qh Qi Qw ZE QZ Qbp QO QG Q6 Q0 Q5 Zi Q9 QM QB QI Zj Q7 Qz QP Qt Qk Qs Qr Qq Qp Qg Zb Ze lit8 XB J4 Jx Qb0 J2 Jw fold_vs vs_set
attribute [local simp ↓] Qm Ql heap_alloc Qo heap_setCell Qb
attribute [local simp] Qc Qa Qd Qj Qf Qe Qh Qi Qw QB Qk Qs Qr Qq Qp Qg XB
def Yt (n room:Nat) (es:List Ent) (li:Int):Int:=if 0≤li∧li<n then (if room≤es.length then 13 else 0) else 12
def Qap (n room:Nat) (es:List Ent) (li:Int) (l:List Int) (h:l.length=8):List Ent:=if 0≤li∧li<n then (if room≤es.length then es else es++[⟨li.toNat,l,h⟩]) else es
def JD (es:List Ent) (li:Int):Nat:=es.findIdx (fun e=>(e.pos:Int)==li)
def Y1 (es:List Ent) (li:Int):Int:=if JD es li<es.length then 0 else 14
def Jl (es:List Ent) (li:Int):List Ent:=es.eraseIdx (JD es li)
def Y7 (xs:List Int) (es:List Ent) (li:Int):List Int:=match es[JD es li]? with|some e=>YL xs e.pos e.l|none=>xs
theorem Qe4 {es:List Ent} {li:Int} (h:JD es li<es.length):∃e,es[JD es li]? =some e∧(e.pos:Int)=li∧∀x∈es.take (JD es li),(x.pos:Int)≠li:=by
 refine ⟨es[JD es li],List.getElem?_eq_getElem h,?_,?_⟩
 ·have:=List.findIdx_getElem (p:=fun e:Ent=>(e.pos:Int)==li) (xs:=es) (w:=h)
  simp only [beq_iff_eq] at this
  exact this
 ·intro x hx
  obtain ⟨i,hi,rfl⟩:=List.getElem_of_mem hx
  rw [List.getElem_take]
  have h1:i<es.findIdx (fun e:Ent=>(e.pos:Int)==li):=by rw [List.length_take] at hi;unfold JD at hi;omega
  have:=List.not_of_lt_findIdx h1
  simpa using this
theorem first_none {es:List Ent} {li:Int} (h:¬JD es li<es.length):∀e∈es,(e.pos:Int)≠li:=by
 have h1:es.findIdx (fun e:Ent=>(e.pos:Int)==li)=es.length:=Nat.le_antisymm List.findIdx_le_length (by unfold JD at h;omega)
 have:=List.findIdx_eq_length.1 h1
 intro e he
 simpa using this e he
section
variable {W w:World} {q be g b n v room:Nat} {es:List Ent} {xs:List Int} (h:Sys W w q be g b n v room es xs)
include h
theorem any_push (li:Int) (l:List Int) (hl:l.length=8):Calls Tryz.prog 136 #[.pointer (some ⟨q,0,none⟩),.int .i64 li,.agg (vs l)] w (SysTo W w q be g b n v room (Qap n room es li l hl) xs (.int .i64 (Yt n room es li))):=by
 unfold Qap Yt
 by_cases hi:0≤li∧li<n
 ·obtain ⟨j,rfl⟩:=Int.eq_ofNat_of_zero_le hi.1
  have hj:j<n:=by omega
  rw [if_pos hi,if_pos hi]
  by_cases hr:room≤es.length
  ·rw [if_pos hr,if_pos hr]
   exact (push_full q be g n room es j l w h.2.1 hj hr).mono fun e w' ⟨he,hc⟩=>⟨he,be,h.keep hc,hc.mono (by simp),.inl rfl⟩
  ·rw [if_neg hr,if_neg hr]
   exact sys_push h ⟨j,l,hl⟩ hj (by omega)
 ·rw [if_neg hi,if_neg hi]
  exact (push_out q be g n room es li l w h.2.1 hi).mono fun e w' ⟨he,hc⟩=>⟨he,be,h.keep hc,hc.mono (by simp),.inl rfl⟩
theorem any_drain (li:Int):Calls Tryz.prog 106 #[.pointer (some ⟨q,0,none⟩),.int .i64 li] w (SysTo W w q be g b n v room (Jl es li) (Y7 xs es li) (.int .i64 (Y1 es li))):=by
 unfold Jl Y1 Y7
 by_cases hi:JD es li<es.length
 ·obtain ⟨x,h1,h2,h3⟩:=Qe4 hi
  rw [if_pos hi,h1]
  subst h2
  exact sys_drain h x _ h1 h3
 ·rw [if_neg hi,List.eraseIdx_of_length_le (by omega),List.getElem?_eq_none (by omega)]
  exact (drain_none q be g n room es li w h.2.1 (first_none hi)).mono fun e w' ⟨he,hc⟩=>⟨he,be,h.keep hc,hc.mono (by simp),.inl rfl⟩
end
def RSys (w:World) (p bp o bq n v room:Nat) (es:List Ent) (xs:List Int):Prop:=RQue w p bp o n room es∧RDev w o bq n v xs∧RApart p bp o bq
theorem RSys.keep {w w':World} {p bp o bq n v room:Nat} {es:List Ent} {xs:List Int} {l:List Nat} (h:RSys w p bp o bq n v room es xs) (hc:Chg l w w') (hl:∀x∈[p,bp,o,bq],x∉l):RSys w' p bp o bq n v room es xs:=
 ⟨h.1.keep hc (hl p (by simp)) (hl bp (by simp)),h.2.1.keep hc (hl o (by simp)) (hl bq (by simp)),h.2.2⟩
def Qha (w:World) (p bp o bq n v room:Nat) (es:List Ent) (xs:List Int) (val:Value) (e:Ending) (w':World):Prop:=
 e=.returned val∧∃bp',RSys w' p bp' o bq n v room es xs∧Chg [p,bp,o,bq] w w'∧(bp'=bp∨bp'=p∨w.heap.size≤bp')
section
variable {w:World} {p bp o bq n v room:Nat} {es:List Ent} {xs:List Int} (h:RSys w p bp o bq n v room es xs)
include h
theorem RSys.olds:p<w.heap.size∧bp<w.heap.size∧o<w.heap.size∧bq<w.heap.size:=⟨h.1.oldq.lt,h.1.olde.lt,(old (h.2.1.1.choose_spec)).lt,(old (h.2.1.2.1.choose_spec)).lt⟩
theorem Qgg {f:FuncId} {args:Array Value} {val:Value} (hc:Calls Tryz.prog f args w fun e w'=>e=.returned val∧Chg [] w w'):Calls Tryz.prog f args w (Qha w p bp o bq n v room es xs val):=
 hc.mono fun e w' ⟨he,hc⟩=>⟨he,bp,h.keep hc (by simp),hc.mono (by simp),.inl rfl⟩
theorem rany_push (li:Int) (l:List Int) (hl:l.length=8):Calls Tryz.prog 119 #[.pointer (some ⟨p,0,none⟩),.int .i64 li,.agg (vs l)] w (Qha w p bp o bq n v room (Qap n room es li l hl) xs (.int .i64 (Yt n room es li))):=by
 have ho:=h.olds
 obtain ⟨a1,a2,a3,a4⟩:=h.2.2
 unfold Qap Yt
 by_cases hi:0≤li∧li<n
 ·obtain ⟨j,rfl⟩:=Int.eq_ofNat_of_zero_le hi.1
  have hj:j<n:=by omega
  rw [if_pos hi,if_pos hi]
  by_cases hr:room≤es.length
  ·rw [if_pos hr,if_pos hr]
   exact Qgg h (rpush_full p bp o bq n v room es xs j l w h.1 h.2.1 hj hr)
  ·rw [if_neg hr,if_neg hr]
   refine (rpush_ok p bp o bq n v room es xs ⟨j,l,hl⟩ w h.1 h.2.1 hj (by omega)).mono fun e w' ⟨he,bp',hb,hc,hq⟩=>⟨he,bp',⟨hq,h.2.1.keep hc (by simp;omega) (by simp;omega),⟨a1,a2,?_,?_⟩⟩,hc.mono (by simp),?_⟩
   ·rcases hb with rfl|hb<;>omega
   ·rcases hb with rfl|hb<;>omega
   ·rcases hb with rfl|hb
    ·exact .inl rfl
    ·exact .inr (.inr hb)
 ·rw [if_neg hi,if_neg hi]
  exact Qgg h (rpush_out p bp o bq n v room es xs li l w h.1 h.2.1 hi)
theorem rany_drain (li:Int):Calls Tryz.prog 122 #[.pointer (some ⟨p,0,none⟩),.int .i64 li] w (Qha w p bp o bq n v room (Jl es li) (Y7 xs es li) (.int .i64 (Y1 es li))):=by
 have ho:=h.olds
 obtain ⟨a1,a2,a3,a4⟩:=h.2.2
 unfold Jl Y1 Y7
 by_cases hi:JD es li<es.length
 ·obtain ⟨x,h1,h2,h3⟩:=Qe4 hi
  rw [if_pos hi,h1]
  subst h2
  exact (rdrain_ok p bp o bq n v room es xs _ x w h.1 h.2.1 h.2.2 h1 h3).mono fun e w' ⟨he,bp',hb,hc,hq,hd⟩=>⟨he,bp',⟨hq,hd,⟨a1,a2,by omega,by omega⟩⟩,hc.mono (by simp),.inr (.inr hb)⟩
 ·rw [if_neg hi,List.eraseIdx_of_length_le (by omega),List.getElem?_eq_none (by omega)]
  exact Qgg h ((rdrain_none p bp o n room es li w h.1 (first_none hi)).mono fun e w' ⟨he,hw⟩=>⟨he,by subst hw;exact Chg.refl _ _⟩)
theorem rany_fail:Calls Tryz.prog 123 #[.pointer (some ⟨p,0,none⟩)] w (Qha w p bp o bq n v room [] (XE (over xs es) v) (.tuple #[])):=by
 obtain ⟨a1,a2,a3,a4⟩:=h.2.2
 exact (rqfail_ok p bp o bq n v room es xs w h.1 h.2.1 h.2.2).mono fun e w' ⟨he,hc,hq,hd⟩=>⟨he,p,⟨hq,hd,⟨a1,a2,a1,a2⟩⟩,hc.mono (by simp),.inr (.inl rfl)⟩
end
def Both (W w:World) (q be g b p bp o bq n v room:Nat) (es:List Ent) (xs:List Int) (es':List Ent) (xs':List Int):Prop:=
 Sys W w q be g b n v room es xs∧RSys w p bp o bq n v room es' xs'∧(∀x∈[p,bp,o,bq],x∉[q,be,g,b])∧∀x∈[p,bp,o,bq],W.heap.size≤x
section
variable {W w w':World} {q be g b p bp o bq n v room:Nat} {es es' es2:List Ent} {xs xs' xs2:List Int} (h:Both W w q be g b p bp o bq n v room es xs es' xs')
include h
theorem Both.keep (hc:Chg [] w w'):Both W w' q be g b p bp o bq n v room es xs es' xs':=⟨h.1.keep hc,h.2.1.keep hc (by simp),h.2.2⟩
end
end
end Go.Proofs.YtadeoflkppiflaaGreatDoor
