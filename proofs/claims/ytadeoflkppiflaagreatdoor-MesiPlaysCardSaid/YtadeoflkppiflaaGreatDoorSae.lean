/- Texts of the walk, one behind the other: Arrm Arr Arra Arrb Arrr Arrs Arrt Arrv Arrw. No condition. -/
import Derived.Test.YtadeoflkppiflaaGreatDoorSaa
import Derived.Test.YtadeoflkppiflaaGreatDoorSac
import Derived.Test.YtadeoflkppiflaaGreatDoorSad
import Derived.Deep.CutBlock
namespace Go.Proofs.YtadeoflkppiflaaGreatDoor
open Go.RowKit
set_option linter.unusedVariables false
section
structure Slt where
 st:Int
 li:Int
 l:List Int
 us:Int
 h:l.length=8
def Slt.enc (s:Slt):List Value:=.int .i64 s.st::.int .i64 s.li::(s.l.map (Value.int .u64)++[.int .i64 s.us])
theorem Slt.len (s:Slt):(Slt.enc s).length=11:=by simp [Slt.enc,s.h]
theorem Slt.one (s:Slt):∀v∈Slt.enc s,v.oneCell'=true:=by
 intro v hv
 simp only [Slt.enc,List.mem_cons,List.mem_append,List.mem_map,Vn,or_false] at hv
 rcases hv with rfl|rfl|⟨x,_,rfl⟩|rfl<;>rfl
def sltZ:Slt:=⟨0,0,[0,0,0,0,0,0,0,0],0,rfl⟩
def sltV:Value:=.agg (.int .i64 0::.int .i64 0::(List.replicate 8 (.int .u64 0)++[.int .i64 0])).toArray
theorem sltV_size:sltV.cells.size=11:=rfl
theorem sltV_one:∀v∈sltV.cells,v.oneCell'=true:=by intro v hv;simp [sltV,Value.cells] at hv;rcases hv with rfl|rfl|rfl<;>rfl
def slc (s:Slt):Array Value:=(Slt.enc s).toArray
theorem QF (s:Slt):(slc s).size=11:=by simp [slc,Slt.len]
theorem ZG (s:Slt):Qa1 (slc s):=Qt _ (List.all_eq_true.2 (Slt.one s))
theorem Z4 (s:Slt):(slc s)[0]? =some (.int .i64 s.st):=by simp [slc,Slt.enc]
theorem Z5 (s:Slt):(slc s)[1]? =some (.int .i64 s.li):=by simp [slc,Slt.enc]
theorem enc_us (s:Slt):(Slt.enc s)[10]? =some (.int .i64 s.us):=by
 have:s.l.length=8:=s.h
 unfold Slt.enc
 rw [List.getElem?_cons_succ,List.getElem?_cons_succ,List.getElem?_append_right (by simp [this])]
 simp [this]
theorem Z3 (s:Slt):(slc s)[10]? =some (.int .i64 s.us):=by rw [slc,List.getElem?_toArray,enc_us]
theorem enc_line (s:Slt):((Slt.enc s).drop 2).take 8=s.l.map (Value.int .u64):=by
 have:s.l.length=8:=s.h
 unfold Slt.enc
 rw [List.drop_succ_cons,List.drop_succ_cons,List.drop_zero,List.take_append_of_le_length (by simp [this]),List.take_of_length_le (by simp [this])]
theorem Zr (s:Slt) (t:TypeId) (f:Nat×Nat):Xq (some (.cells (slc s) t f)) 2 8=vs s.l:=by
 rw [XF]
 unfold slc
 rw [List.toList_toArray,enc_line];rfl
theorem slcZ:slc sltZ=#[.int .i64 0,.int .i64 0,.int .u64 0,.int .u64 0,.int .u64 0,.int .u64 0,.int .u64 0,.int .u64 0,.int .u64 0,.int .u64 0,.int .i64 0]:=rfl
theorem Zt (st li z:Int) (l:List Int) (h:l.length=8):Array.foldl (fun cs y=>cs.setIfInBounds (2+y.snd) y.fst) #[.int .i64 st,.int .i64 li,.int .u64 0,.int .u64 0,.int .u64 0,.int .u64 0,.int .u64 0,.int .u64 0,.int .u64 0,.int .u64 0,.int .i64 z] (vs l).zipIdx 0 8=slc ⟨st,li,l,z,h⟩:=by
 rw [J1 _ _ 2 8 (by rw [Qw,h]) (by simp)]
 simp [Z9,vs,slc,Slt.enc,h]
theorem ZC (C:Array Value) (s:Slt) (h:C.size=11):Array.foldl (fun cs y=>cs.setIfInBounds y.snd y.fst) C (slc s).zipIdx 0 11=slc s:=Qcy _ _ _ (QF s) h
theorem Zd (s:Slt) (u:Int):(slc s).setIfInBounds 10 (.int .i64 u)=slc ⟨s.st,s.li,s.l,u,s.h⟩:=by
 have h8:s.l.length=8:=s.h
 unfold slc Slt.enc
 rw [List.setIfInBounds_toArray,List.set_cons_succ,List.set_cons_succ,List.set_append_right _ _ (by simp [h8])]
 simp [h8]
def hit (p:Slt→Bool) (ys:List Slt):Int:=if ys.findIdx p<ys.length then (ys.findIdx p:Nat) else -1
theorem Qdk {α:Type} {p:α→Bool} {ys:List α} {k:Nat} {y:α} (h:ys[k]? =some y) (hp:p y=true) (hb:∀x∈ys.take k,p x=false):ys.findIdx p=k:=by
 obtain ⟨hk,rfl⟩:=Vg h
 refine (List.findIdx_eq hk).2 ⟨hp,fun j hj=>?_⟩
 have:=hb ys[j] (List.mem_take_iff_getElem.2 ⟨j,by omega,rfl⟩)
 simpa using this
theorem hit_at {p:Slt→Bool} {ys:List Slt} {k:Nat} {y:Slt} (h:ys[k]? =some y) (hp:p y=true) (hb:∀x∈ys.take k,p x=false):hit p ys=(k:Int):=by
 have hk:=(Vg h).1
 unfold hit
 rw [Qdk h hp hb,if_pos hk]
theorem Qby {p:Slt→Bool} {ys:List Slt} (h:∀x∈ys,p x=false):hit p ys= -1:=by
 unfold hit
 rw [if_neg]
 rw [List.findIdx_eq_length.2 (by intro x hx;simpa using h x hx)]
 omega
theorem Qgo (p:Slt→Bool) (ys:List Slt):(∃(k:Nat) (y:Slt),hit p ys=(k:Int)∧ys.findIdx p=k∧ys[k]? =some y∧p y=true∧k<ys.length∧∀x∈ys.take k,p x=false)∨(hit p ys= -1∧ys.findIdx p=ys.length∧∀x∈ys,p x=false):=by
 by_cases h:ys.findIdx p<ys.length
 ·refine .inl ⟨ys.findIdx p,ys[ys.findIdx p],by unfold hit;rw [if_pos h],rfl,List.getElem?_eq_getElem h,List.findIdx_getElem,h,?_⟩
  intro x hx
  obtain ⟨j,hj,rfl⟩:=List.mem_take_iff_getElem.1 hx
  have:=List.not_of_lt_findIdx (p:=p) (xs:=ys) (i:=j) (by omega)
  simpa using this
 ·have e:ys.findIdx p=ys.length:=Nat.le_antisymm List.findIdx_le_length (by omega)
  refine .inr ⟨by unfold hit;rw [if_neg h],e,?_⟩
  have:=List.findIdx_eq_length.1 e
  intro x hx
  simpa using this x hx
def Xv (li:Int) (x:Slt):Bool:=x.st !=0&&x.li==li
def YZ (x:Slt):Bool:=x.st==0
theorem Ja {li:Int} {x:Slt} (h:Xv li x=true):x.st≠0∧x.li=li:=by simpa [Xv] using h
def Xs (st:Int):Bool:=decide (1≤st)&&decide (st≤3)
def JE (a:Int×Int) (s:Slt):Int×Int:=if Xs s.st&&(decide (a.1<0)||decide (s.us<a.2)) then (s.li,s.us) else a
def eldS (ys:List Slt):Int×Int:=ys.foldl JE (-1,0)
def eld (ys:List Slt):Int:=(eldS ys).1
theorem eldS_take {ys:List Slt} {k:Nat} {y:Slt} (h:ys[k]? =some y):eldS (ys.take (k+1))=JE (eldS (ys.take k)) y:=by
 obtain ⟨hk,rfl⟩:=Vg h
 unfold eldS
 rw [List.take_succ_eq_append_getElem hk,List.foldl_append];rfl
def Xc (S:Nat) (li:Int):Nat:=li.toNat % S
def seg (W:Nat) (xs:List Slt) (t:Nat):List Slt:=(xs.drop (t*W)).take W
theorem seg_length {S W:Nat} {xs:List Slt} (hx:xs.length=S*W) {t:Nat} (ht:t<S):(seg W xs t).length=W:=by
 have:t*W+W≤S*W:=JO ht
 simp [seg];omega
theorem Qde {W:Nat} (xs:List Slt) (t k:Nat) (hk:k<W):(seg W xs t)[k]? =xs[t*W+k]?:=by
 unfold seg
 rw [List.getElem?_take_of_lt hk,List.getElem?_drop]
structure Good (S W:Nat) (xs:List Slt):Prop where
 sets:S=1∨S=2∨S=4∨S=8
 way1:1≤W
 way8:W≤8
 len:xs.length=S*W
 home:∀i x,xs[i]? =some x→x.st≠0→0≤x.li∧i / W=Xc S x.li
theorem Good.spos {S W:Nat} {xs:List Slt} (h:Good S W xs):0<S:=by have:=h.sets;omega
theorem Good.s8 {S W:Nat} {xs:List Slt} (h:Good S W xs):S≤8:=by have:=h.sets;omega
theorem Good.set_lt {S W:Nat} {xs:List Slt} (h:Good S W xs) (li:Int):Xc S li<S:=Nat.mod_lt _ h.spos
theorem Good.len64 {S W:Nat} {xs:List Slt} (h:Good S W xs):xs.length≤64:=by
 rw [h.len];exact Nat.mul_le_mul h.s8 h.way8
theorem Good.seg_len {S W:Nat} {xs:List Slt} (h:Good S W xs) (li:Int):(seg W xs (Xc S li)).length=W:=seg_length h.len (h.set_lt li)
theorem Good.fit {S W:Nat} {xs:List Slt} (h:Good S W xs) (li:Int):Xc S li*W+W≤S*W:=JO (h.set_lt li)
theorem div_of {i t k W:Nat} (hk:k<W) (h:i=t*W+k):i / W=t:=by
 subst h
 rw [Nat.mul_comm,Nat.mul_add_div (by omega),Nat.div_eq_of_lt hk,Nat.add_zero]
theorem mod_of {i t W:Nat} (hw:0<W) (h:i / W=t):∃k,k<W∧i=t*W+k:=by
 refine ⟨i % W,Nat.mod_lt _ hw,?_⟩
 subst h
 have:=Nat.div_add_mod i W
 rw [Nat.mul_comm] at this
 omega
theorem Good.where {S W:Nat} {xs:List Slt} (h:Good S W xs) (li:Int):
 (∃(k:Nat) (y:Slt),(seg W xs (Xc S li)).findIdx (Xv li)=k∧xs.findIdx (Xv li)=Xc S li*W+k∧k<W∧xs[Xc S li*W+k]? =some y∧y.st≠0∧y.li=li∧0≤li∧hit (Xv li) (seg W xs (Xc S li))=(k:Int)∧hit (Xv li) xs=((Xc S li*W+k:Nat):Int)∧Xc S li*W+k<xs.length)∨
 (hit (Xv li) (seg W xs (Xc S li))= -1∧hit (Xv li) xs= -1∧xs.findIdx (Xv li)=xs.length∧∀x∈xs,Xv li x=false):=by
 rcases Qgo (Xv li) xs with ⟨i,y,e1,e2,e3,e4,e5,e6⟩|⟨e1,e2,e3⟩
 ·obtain ⟨h1,h2⟩:=Ja e4
  obtain ⟨h3,h4⟩:=h.home i y e3 h1
  rw [h2] at h3 h4
  obtain ⟨k,hk,rfl⟩:=mod_of (by have:=h.way1;omega) h4
  have hs:(seg W xs (Xc S li))[k]? =some y:=by rw [Qde _ _ _ hk];exact e3
  have hb:∀x∈(seg W xs (Xc S li)).take k,Xv li x=false:=by
   intro x hx
   obtain ⟨j,hj,rfl⟩:=List.mem_take_iff_getElem.1 hx
   have hjk:j<k:=by omega
   have hjl:j<(seg W xs (Xc S li)).length:=by omega
   have hxj:(seg W xs (Xc S li))[j]? =some (seg W xs (Xc S li))[j]:=List.getElem?_eq_getElem hjl
   rw [Qde _ _ _ (by omega)] at hxj
   obtain ⟨hl,he⟩:=Vg hxj
   exact e6 _ (List.mem_take_iff_getElem.2 ⟨Xc S li*W+j,by omega,he⟩)
  exact .inl ⟨k,y,Qdk hs e4 hb,e2,hk,e3,h1,h2,h3,hit_at hs e4 hb,e1,e5⟩
 ·refine .inr ⟨Qby ?_,e1,e2,e3⟩
  intro x hx
  exact e3 x (List.mem_of_mem_drop (List.mem_of_mem_take hx))
theorem Good.room {S W:Nat} {xs:List Slt} (h:Good S W xs) (li:Int):
 (∃(k:Nat) (y:Slt),(seg W xs (Xc S li)).findIdx YZ=k∧k<W∧xs[Xc S li*W+k]? =some y∧y.st=0∧hit YZ (seg W xs (Xc S li))=(k:Int)∧Xc S li*W+k<xs.length∧∀x∈(seg W xs (Xc S li)).take k,YZ x=false)∨
 (hit YZ (seg W xs (Xc S li))= -1∧(seg W xs (Xc S li)).findIdx YZ=W∧∀x∈seg W xs (Xc S li),x.st≠0):=by
 have hl:=h.seg_len li
 rcases Qgo YZ (seg W xs (Xc S li)) with ⟨k,y,e1,e2,e3,e4,e5,e6⟩|⟨e1,e2,e3⟩
 ·have hk:k<W:=by omega
  rw [Qde _ _ _ hk] at e3
  exact .inl ⟨k,y,e2,hk,e3,by simpa [YZ] using e4,e1,(Vg e3).1,e6⟩
 ·refine .inr ⟨e1,by omega,fun x hx=>?_⟩
  simpa [YZ] using e3 x hx
def JS (S W:Nat) (xs:List Slt) (li:Int):Nat:=
 if xs.findIdx (Xv li)<xs.length then xs.findIdx (Xv li) else if (seg W xs (Xc S li)).findIdx YZ<W then Xc S li*W+(seg W xs (Xc S li)).findIdx YZ else xs.length
def Qgu (S W:Nat) (xs:List Slt) (li:Int):Int:=if (seg W xs (Xc S li)).findIdx YZ<W then ((Xc S li*W+(seg W xs (Xc S li)).findIdx YZ:Nat):Int) else -1
def XT (li st:Int):Prop:=li<0∨st<1∨9<st
instance (li st:Int):Decidable (XT li st):=inferInstanceAs (Decidable (_∨_∨_))
def Qds (S W:Nat) (xs:List Slt) (li st:Int):Int:=if XT li st then 1 else if JS S W xs li<xs.length then 0 else 13
def setXs (S W:Nat) (xs:List Slt) (u li st:Int) (l:List Int) (h:l.length=8):List Slt:=if XT li st then xs else xs.set (JS S W xs li) ⟨st,li,l,u+1,h⟩
def setU (S W:Nat) (xs:List Slt) (u li st:Int):Int:=if XT li st then u else if JS S W xs li<xs.length then u+1 else u
def Slt.use (x:Slt) (u:Int):Slt:=⟨x.st,x.li,x.l,u,x.h⟩
def touchXs (xs:List Slt) (u li:Int):List Slt:=match xs[xs.findIdx (Xv li)]? with|some x=>xs.set (xs.findIdx (Xv li)) (x.use (u+1))|none=>xs
def J8 (xs:List Slt) (u li:Int):Int:=if xs.findIdx (Xv li)<xs.length then u+1 else u
def Xt (xs:List Slt) (li:Int):Bool:=decide (xs.findIdx (Xv li)<xs.length)
def dropXs (xs:List Slt) (li:Int):List Slt:=xs.set (xs.findIdx (Xv li)) sltZ
def Qn (xs:List Slt) (li:Int):Slt:=match xs[xs.findIdx (Xv li)]? with|some x=>x|none=>sltZ
def X5 (S W:Nat) (xs:List Slt) (li:Int):Bool:=decide (0≤li)&&decide ((seg W xs (Xc S li)).findIdx YZ<W)
def Y5 (S W:Nat) (xs:List Slt) (li:Int):Int:=if li<0 then -1 else if (seg W xs (Xc S li)).findIdx YZ<W then -1 else eld (seg W xs (Xc S li))
def live (xs:List Slt):List Slt:=xs.filter (fun x=>x.st !=0)
theorem Qcu {α:Type} (xs:List α) (a:α):xs.set xs.length a=xs:=List.set_eq_of_length_le (Nat.le_refl _)
theorem Good.put {S W:Nat} {xs:List Slt} (h:Good S W xs) (k:Nat) (x:Slt) (hx:x.st≠0→0≤x.li∧k / W=Xc S x.li):Good S W (xs.set k x):=by
 refine ⟨h.sets,h.way1,h.way8,by rw [List.length_set,h.len],fun i y hy h0=>?_⟩
 rw [List.getElem?_set] at hy
 split at hy
 ·rename_i e
  subst e
  split at hy
  ·injection hy with hy;subst hy;exact hx h0
  ·cases hy
 ·exact h.home i y hy h0
theorem Good.setXs {S W:Nat} {xs:List Slt} (h:Good S W xs) (u li st:Int) (l:List Int) (hl:l.length=8):Good S W (setXs S W xs u li st l hl):=by
 unfold Go.Proofs.YtadeoflkppiflaaGreatDoor.setXs
 split
 ·exact h
 ·rename_i hb
  have h0:0≤li:=by unfold XT at hb;omega
  unfold JS
  rcases h.where li with ⟨k,y,e1,e2,e3,e4,e5,e6,e7,e8,e9,e10⟩|⟨e1,e2,e3,e4⟩
  ·rw [if_pos (by omega),e2]
   exact h.put _ _ (fun _=>⟨h0,div_of e3 rfl⟩)
  ·rw [if_neg (by omega)]
   split
   ·rename_i h2
    exact h.put _ _ (fun _=>⟨h0,div_of h2 rfl⟩)
   ·rw [Qcu];exact h
theorem Good.touchXs {S W:Nat} {xs:List Slt} (h:Good S W xs) (u li:Int):Good S W (touchXs xs u li):=by
 unfold Go.Proofs.YtadeoflkppiflaaGreatDoor.touchXs
 split
 ·rename_i x hx
  exact h.put _ _ (fun h0=>h.home _ x hx h0)
 ·exact h
theorem Good.dropXs {S W:Nat} {xs:List Slt} (h:Good S W xs) (li:Int):Good S W (dropXs xs li):=h.put _ _ (fun h0=>absurd rfl h0)
theorem setU_le {S W:Nat} {xs:List Slt} {u li st:Int}:u≤setU S W xs u li st∧setU S W xs u li st≤u+1:=by
 unfold setU;split<;>(try split)<;>omega
theorem touchU_le {xs:List Slt} {u li:Int}:u≤J8 xs u li∧J8 xs u li≤u+1:=by
 unfold J8;split<;>omega
theorem Good.new {S W:Nat} (h1:S=1∨S=2∨S=4∨S=8) (h2:1≤W) (h3:W≤8):Good S W (List.replicate (S*W) sltZ):=by
 refine ⟨h1,h2,h3,by simp,fun i x hx h0=>?_⟩
 rw [List.getElem?_replicate] at hx
 split at hx
 ·injection hx with hx;subst hx;exact absurd rfl h0
 ·cases hx
theorem live_take {xs:List Slt} {k:Nat} {x:Slt} (h:xs[k]? =some x):live (xs.take (k+1))=live (xs.take k)++(if x.st=0 then [] else [x]):=by
 obtain ⟨hk,rfl⟩:=Vg h
 unfold live
 rw [List.take_succ_eq_append_getElem hk,List.filter_append]
 congr 1
 split<;>simp [*]
theorem live_le (xs:List Slt):(live xs).length≤xs.length:=List.length_filter_le _ _
section
variable {xs:List Slt} {k:Nat} {x:Slt} (h:xs[k]? =some x) (r:List Value) (t:TypeId) (f:Nat×Nat)
include h
theorem slt_row:Xq (some (.cells (sq Slt.enc xs r) t f)) (k*11) 11=slc x:=by
 have:=Qba Slt.len h r t f 0 11 (by omega)
 rw [Nat.add_zero] at this
 rw [this]
 simp [slc,Slt.len,List.take_of_length_le]
theorem Qf8:JM (some (.cells (sq Slt.enc xs r) t f)) (k*11) 11=true:=Qdx Slt.len (Vg h).1 r t f 0 11 (by omega)
theorem slt_st:(sq Slt.enc xs r)[k*11]? =some (.int .i64 x.st):=by
 have:=YC Slt.len h r 0 (by omega)
 rw [Nat.add_zero] at this
 rw [this];rfl
theorem slt_li:(sq Slt.enc xs r)[k*11+1]? =some (.int .i64 x.li):=by
 rw [YC Slt.len h r 1 (by omega)];rfl
theorem slt_us:(sq Slt.enc xs r)[k*11+10]? =some (.int .i64 x.us):=by
 rw [YC Slt.len h r 10 (by omega),enc_us]
theorem Qcb:Z7 (some (.cells (sq Slt.enc xs r) t (0,0))) (k*11) 11=true:=by
 have hk:=(Vg h).1
 have:=JO (k:=11) hk
 rw [Qd,J9 Slt.len]
 exact Tz139
theorem Qbr (y:Slt):Yx (some (.cells (sq Slt.enc xs r) t f)) (k*11) (slc y)=some (.cells (sq Slt.enc (xs.set k y) r) t f):=by
 have hk:=(Vg h).1
 have:=JO (k:=11) hk
 have e:Z9 xs k [y]=xs.set k y:=by unfold Z9;rw [List.set_eq_take_append_cons_drop,if_pos hk];simp
 rw [XI,Yl,←e]
 unfold slc sq
 rw [List.toList_toArray,Qbq _ _ _ _ (by rw [Slt.len,Zo Slt.len];omega)]
 have:=cat_splice Slt.len xs [y] k
 rw [JV] at this
 rw [this]
theorem slt_use (u:Int):(sq Slt.enc xs r).setIfInBounds (k*11+10) (.int .i64 u)=sq Slt.enc (xs.set k (x.use u)) r:=by
 have hk:=(Vg h).1
 have hm:=JO (k:=11) hk
 have h8:x.l.length=8:=x.h
 have e2:(Slt.enc x).set 10 (.int .i64 u)=Slt.enc (x.use u):=by
  unfold Slt.enc Slt.use
  rw [List.set_cons_succ,List.set_cons_succ,List.set_append_right _ _ (by simp [h8])]
  simp [h8]
 have hl:=Zo Slt.len xs
 have ho:=Qbr h r 3 (0,0) (x.use u)
 rw [XI] at ho
 injection ho with ho
 injection ho with ho
 rw [←ho]
 apply Array.toList_inj.1
 rw [Array.toList_setIfInBounds,List.toList_toArray]
 apply List.ext_getElem?
 intro j
 have hxs:∀d,d<11→(sq Slt.enc xs r).toList[k*11+d]? =(Slt.enc x)[d]?:=by
  intro d hd
  have:=YC Slt.len h r d hd
  rwa [←Array.getElem?_toList] at this
 have hsz:(sq Slt.enc xs r).toList.length=xs.length*11+r.length:=by rw [Array.length_toList,J9 Slt.len]
 rw [YS _ _ _ _ (by rw [hsz];unfold slc;rw [List.toList_toArray,Slt.len];omega)]
 have hs11:(slc (x.use u)).toList.length=11:=by rw [Array.length_toList,QF]
 rw [hs11,List.getElem?_set]
 by_cases hj:k*11+10=j
 ·subst hj
  rw [if_pos rfl,if_pos (by rw [hsz];omega),if_neg (by omega),if_pos (by omega),show k*11+10-k*11=10 by omega]
  unfold slc
  rw [List.toList_toArray,enc_us];rfl
 ·rw [if_neg hj]
  split
  ·rfl
  ·split
   ·obtain ⟨d,rfl⟩:∃d,j=k*11+d:=⟨j-k*11,by omega⟩
    rw [hxs d (by omega),show k*11+d-k*11=d by omega]
    unfold slc
    rw [List.toList_toArray,←e2,List.getElem?_set_ne (by omega)]
   ·rfl
end
theorem made_slots (n:Nat):madeCells sltV.cells (n*11)=sq Slt.enc (List.replicate n sltZ) []:=by
 apply Array.ext
 ·rw [J9 Slt.len];simp [madeCells]
 ·intro i h1 h2
  have hi:i<n*11:=by simpa [madeCells] using h1
  obtain ⟨k,d,hk,hd,rfl⟩:∃k d,k<n∧d<11∧i=k*11+d:=⟨i / 11,i % 11,by omega,Nat.mod_lt _ (by omega),by omega⟩
  have h3:(List.replicate n sltZ)[k]? =some sltZ:=by rw [List.getElem?_replicate,if_pos hk]
  have h4:=YC Slt.len h3 [] d hd
  rw [Array.getElem?_eq_getElem h2] at h4
  have e11:sltV.cells.size=11:=rfl
  have hmod:(k*11+d) % 11=d:=by omega
  simp only [madeCells,Array.getElem_map,Array.getElem_range]
  have h5:(sltV.cells)[d]? =(Slt.enc sltZ)[d]?:=by rw [show sltV.cells=(Slt.enc sltZ).toArray from rfl,List.getElem?_toArray]
  rw [←h4,Array.getElem?_eq_getElem (by rw [e11];exact hd)] at h5
  rw [e11,hmod,getElem!_pos sltV.cells d (by rw [e11];exact hd)]
  exact Option.some.inj h5
end
section
theorem Zq:Wide Tryz.prog 54 11:=⟨⟨_,Tryz.underlying54,by rfl⟩,by kernel_rfl⟩
theorem Zs (x:Value):Instr.loadAt 54 x=Qc8 54 11 x:=rfl
theorem Zh (x y:Value):Instr.storeAt 54 x y=JW 54 11 x y:=rfl
attribute [local go_sem ↓] QA QQ QH Q8 QS QC Za QN Zs Zh Qm Ql heap_alloc Qo heap_setCell Qb ZF Z4 Z5 Z3
attribute [local go_sem] Qc Qa Qd Qj Qf Qe Qh Qi Qw ZE QZ Zq QO QG Q6 Q0 Q5 Zi Q9 QM QB QI Zj Q7 Qz QP Qt Qk Qs Qr Qq Qp Qg Zb Ze lit8 QF ZG Zr
attribute [local simp ↓] Qm Ql heap_alloc Qo heap_setCell Qb
attribute [local simp] Qc Qa Qd Qj Qf Qe Qh Qi Qw QB Qk Qs Qr Qq Qp Qg QF
theorem slot_info:(Tryz.prog.info? 54).map (fun i=>(i.zero,i.size,i.bytes))=some (some sltV,11,88):=by kernel_rfl
theorem eltSlot:Elt Tryz.prog 51 54 11 88 sltV Slt.enc where
 slice:=Tryz.underlying51
 info:=slot_info
 zero:=sltV_size
 zone:=sltV_one
 pos:=by omega
 len:=Slt.len
 one:=Slt.one
theorem J6 {P:Program} {f:FuncId} {args:Array Value} {w:World} {n:Nat} {v:Value} (h:Calls P f args (w.drewN n) fun e w'=>e=.returned v∧w.drewN n=w'):Calls P f args (w.drewN n) fun e w''=>e=.returned v∧∃m,w''=w.drewN m:=
 h.mono fun _ _ ⟨he,hm⟩=>⟨he,n,hm.symm⟩
theorem geomSet_ok (S:Nat) (li:Int) (w:World) (h:S=1∨S=2∨S=4∨S=8) (h0:0≤li):Calls Tryz.prog 224 #[.int .i64 S,.int .i64 li] w fun e w'=>e=.returned (.int .i64 (Xc S li))∧w=w':=by
 obtain ⟨m,rfl⟩:=Int.eq_ofNat_of_zero_le h0
 have t1:decide ((m:Int)<0)=false:=by simp
 unfold Xc
 rw [Int.toNat_natCast]
 rcases h with rfl|rfl|rfl|rfl
 all_goals
  go_enter Tryz.func224,Tryz.ntmps224
  go_wp2
  go_ret
  exact ⟨by first |rfl|(simp;done)|(simp;omega)|trace_state,rfl⟩
theorem isSets_yes (S:Nat) (w:World) (h:S=1∨S=2∨S=4∨S=8):Calls Tryz.prog 215 #[.int .i64 S] w fun e w'=>e=.returned (.bool true)∧w=w':=by
 rcases h with rfl|rfl|rfl|rfl
 all_goals
  go_enter Tryz.func215,Tryz.ntmps215
  go_wp2
  go_ret
  exact ⟨rfl,rfl⟩
theorem Qeo (s:Int) (w:World):Calls Tryz.prog 232 #[.int .i64 s] w fun e w'=>e=.returned (.bool (Xs s))∧w=w':=by
 by_cases h:s=1∨s=2∨s=3
 ·rcases h with rfl|rfl|rfl
  all_goals
   go_enter Tryz.func232,Tryz.ntmps232
   go_wp2
   go_ret
   exact ⟨rfl,rfl⟩
 ·have t1:(s==1)=false:=by simp;omega
  have t2:(s==2)=false:=by simp;omega
  have t3:(s==3)=false:=by simp;omega
  have hr:Xs s=false:=by unfold Xs;simp;omega
  rw [hr]
  go_enter Tryz.func232,Tryz.ntmps232
  go_wp2
  go_ret
  exact ⟨rfl,rfl⟩
theorem JG (A:Option Addr) (n c:Nat) (li:Int) (ys:List Slt) (w:World) (h:Sl w 11 A n (cat Slt.enc ys)) (hn:n=ys.length) (hn8:n≤100000):
 Calls Tryz.prog 195 #[.slice A n c,.int .i64 li] w fun e w'=>e=.returned (.int .i64 (hit (Xv li) ys))∧Chg [] w w':=by
 have H:=Vh h
 have HN:=Vh hn
 clear h hn
 go_enter Tryz.func195,Tryz.ntmps195
 go_wp2
 go_loopw [9] (fun i wr=>∃k:Nat,k≤n∧i=.int .i64 k∧Chg [] w wr∧∀x∈ys.take k,Xv li x=false) (fun i _=>n-(intOf i).toNat)
 case atStart=>exact ⟨0,by omega,rfl,Chg.refl _ _,by simp⟩
 case round=>
  obtain ⟨k,hk,rfl,hc,hno⟩:=hrel
  have HC:=Vh hc
  have HNO:=Vh hno
  clear hno hc
  by_cases hlt:k<n
  ·obtain ⟨b,o,rfl⟩:=H.out.addr (by omega)
   obtain ⟨y,hy⟩:∃y,ys[k]? =some y:=⟨ys[k]'Cz17,List.getElem?_eq_getElem _⟩
   obtain ⟨cs,t,f,hb,hce,hpa⟩:=(H.out.chg HC.out (by simp)).elem (by omega) hlt (Je Slt.len hy)
   obtain ⟨r1,r2⟩:=hpa 0 11 (by omega)
   have e11:((Slt.enc y).drop 0 |>.take 11).toArray=slc y:=by rw [List.drop_zero,List.take_of_length_le (by rw [Slt.len];exact Nat.le_refl _)];rfl
   rw [e11,Nat.add_zero] at r2
   rw [Nat.add_zero] at r1
   have g1:(k:Int)<(n:Int):=by omega
   have g0:(0:Int)≤(k:Int):=by omega
   have g2:(n:Int)≤100000:=by omega
   have HY:=Vh hy
   clear hy hce hpa e11
   by_cases hs:y.st=0
   ·have t1:(y.st !=0)=false:=by simp [hs]
    have t1':(y.st==0)=true:=by simp [hs]
    have HP:=Vh (Qcs HY.out (show Xv li y=false by simp [Xv,hs]) HNO.out)
    exact Tz110
   ·have t1:(y.st !=0)=true:=by simp [hs]
    have t1':(y.st==0)=false:=by simp [hs]
    by_cases hli:y.li=li
    ·have t2:(y.li==li)=true:=by simp [hli]
     have HP:=Vh (hit_at HY.out (show Xv li y=true by simp [Xv,hs,hli]) HNO.out)
     go_wp2
     go_ret
     exact ⟨by rw [HP.out];rfl,HC.out.alloc _⟩
    ·have t2:(y.li==li)=false:=by simp [hli]
     have HP:=Vh (Qcs HY.out (show Xv li y=false by simp [Xv,hs,hli]) HNO.out)
     exact Tz110
  ·obtain rfl:k=n:=by omega
   go_wp2
   go_ret
   exact ⟨by rw [Qby (by have:=HNO.out;rw [HN.out,List.take_length] at this;exact this)];rfl,HC.out⟩
theorem Qan (A:Option Addr) (n c:Nat) (ys:List Slt) (w:World) (h:Sl w 11 A n (cat Slt.enc ys)) (hn:n=ys.length) (hn8:n≤100000):
 Calls Tryz.prog 200 #[.slice A n c] w fun e w'=>e=.returned (.int .i64 (hit YZ ys))∧Chg [] w w':=by
 have H:=Vh h
 have HN:=Vh hn
 clear h hn
 go_enter Tryz.func200,Tryz.ntmps200
 go_wp2
 go_loopw [7] (fun i wr=>∃k:Nat,k≤n∧i=.int .i64 k∧Chg [] w wr∧∀x∈ys.take k,YZ x=false) (fun i _=>n-(intOf i).toNat)
 case atStart=>exact ⟨0,by omega,rfl,Chg.refl _ _,by simp⟩
 case round=>
  obtain ⟨k,hk,rfl,hc,hno⟩:=hrel
  have HC:=Vh hc
  have HNO:=Vh hno
  clear hno hc
  by_cases hlt:k<n
  ·obtain ⟨b,o,rfl⟩:=H.out.addr (by omega)
   obtain ⟨y,hy⟩:∃y,ys[k]? =some y:=⟨ys[k]'Cz17,List.getElem?_eq_getElem _⟩
   obtain ⟨cs,t,f,hb,hce,hpa⟩:=(H.out.chg HC.out (by simp)).elem (by omega) hlt (Je Slt.len hy)
   obtain ⟨r1,r2⟩:=hpa 0 11 (by omega)
   have e11:((Slt.enc y).drop 0 |>.take 11).toArray=slc y:=by rw [List.drop_zero,List.take_of_length_le (by rw [Slt.len];exact Nat.le_refl _)];rfl
   rw [e11,Nat.add_zero] at r2
   rw [Nat.add_zero] at r1
   have g1:(k:Int)<(n:Int):=by omega
   have g0:(0:Int)≤(k:Int):=by omega
   have g2:(n:Int)≤100000:=by omega
   have HY:=Vh hy
   clear hy hce hpa e11
   by_cases hs:y.st=0
   ·have t1:(y.st==0)=true:=by simp [hs]
    have HP:=Vh (hit_at HY.out (show YZ y=true by simp [YZ,hs]) HNO.out)
    go_wp2
    go_ret
    exact ⟨by rw [HP.out];rfl,HC.out.alloc _⟩
   ·have t1:(y.st==0)=false:=by simp [hs]
    have HP:=Vh (Qcs HY.out (show YZ y=false by simp [YZ,hs]) HNO.out)
    exact Tz110
  ·obtain rfl:k=n:=by omega
   go_wp2
   go_ret
   exact ⟨by rw [Qby (by have:=HNO.out;rw [HN.out,List.take_length] at this;exact this)];rfl,HC.out⟩
theorem slt_elem {w wr:World} {l:List Nat} {n b o k:Nat} {ys:List Slt} {y:Slt} (h:Sl w 11 (some ⟨b,o,none⟩) n (cat Slt.enc ys)) (hc:Chg l w wr) (hb:b∉l) (hk:k<n) (hy:ys[k]? =some y):
 ∃c t f,wr.heap[b]? =some (.cells c t f)∧JM (some (.cells c t f)) (o+k*11) 11=true∧Xq (some (.cells c t f)) (o+k*11) 11=slc y:=by
 obtain ⟨cs,t,f,hb,hce,hpa⟩:=(h.chg hc (by simpa using hb)).elem (by omega) hk (Je Slt.len hy)
 obtain ⟨r1,r2⟩:=hpa 0 11 (by omega)
 have e11:((Slt.enc y).drop 0 |>.take 11).toArray=slc y:=by rw [List.drop_zero,List.take_of_length_le (by rw [Slt.len];exact Nat.le_refl _)];rfl
 rw [e11,Nat.add_zero] at r2
 rw [Nat.add_zero] at r1
 exact ⟨cs,t,f,hb,r1,r2⟩
theorem eldest_ok (A:Option Addr) (n c:Nat) (ys:List Slt) (w:World) (h:Sl w 11 A n (cat Slt.enc ys)) (hn:n=ys.length) (hn8:n≤100000):
 Calls Tryz.prog 225 #[.slice A n c] w fun e w'=>e=.returned (.int .i64 (eld ys))∧Chg [] w w':=by
 have H:=Vh h
 have HN:=Vh hn
 clear h hn
 go_enter Tryz.func225,Tryz.ntmps225
 go_wp2
 go_loopw [9,3,4] (fun i s3 s4 wr=>∃(k:Nat) (p q:Int),k≤n∧i=.int .i64 k∧s3=.int .i64 p∧s4=.int .i64 q∧Chg [] w wr∧eldS (ys.take k)=(p,q)) (fun i _ _ _=>n-(intOf i).toNat)
 case atStart=>exact ⟨0, -1,0,by omega,rfl,rfl,rfl,Chg.refl _ _,rfl⟩
 case round=>
  obtain ⟨k,p,q,hk,rfl,rfl,rfl,hc,hno⟩:=hrel
  have HC:=Vh hc
  have HNO:=Vh hno
  clear hno hc
  by_cases hlt:k<n
  ·obtain ⟨b,o,rfl⟩:=H.out.addr (by omega)
   obtain ⟨y,hy⟩:∃y,ys[k]? =some y:=⟨ys[k]'Cz17,List.getElem?_eq_getElem _⟩
   obtain ⟨cs,t,f,hb,r1,r2⟩:=slt_elem H.out HC.out (by simp) hlt hy
   have g1:(k:Int)<(n:Int):=by omega
   have g0:(0:Int)≤(k:Int):=by omega
   have g2:(n:Int)≤100000:=by omega
   have HY:=Vh (show eldS (ys.take (k+1))=JE (p,q) y by rw [eldS_take hy,HNO.out])
   clear hy
   by_cases hr:(Xs y.st&&(decide (p<0)||decide (y.us<q)))=true
   ·have HP:=Vh (show eldS (ys.take (k+1))=(y.li,y.us) by rw [HY.out];unfold JE;rw [if_pos hr])
    rw [Bool.and_eq_true] at hr
    obtain ⟨hr1,hr2⟩:=hr
    by_cases hp:p<0
    ·have t1:decide (p<0)=true:=by simpa using hp
     exact Tz99
    ·have t1:decide (p<0)=false:=by simpa using hp
     have t2:decide (y.us<q)=true:=by rw [t1] at hr2;simpa using hr2
     exact Tz99
   ·have HP:=Vh (show eldS (ys.take (k+1))=(p,q) by rw [HY.out];unfold JE;rw [if_neg hr])
    by_cases hr1:Xs y.st=true
    ·rw [hr1,Bool.true_and] at hr
     have t1:decide (p<0)=false:=by simp at hr;simp;omega
     have t2:decide (y.us<q)=false:=by simp at hr;simp;omega
     exact Tz111
    ·have hr1:Xs y.st=false:=by simpa using hr1
     exact Tz111
  ·obtain rfl:k=n:=by omega
   go_wp2
   go_ret
   exact ⟨by have:=HNO.out;rw [HN.out,List.take_length] at this;unfold eld;rw [this];rfl,HC.out⟩
def Arr (w:World) (a b S W:Nat) (xs:List Slt) (u:Int):Prop:=
 w.heap[a]? =some (.cells #[.int .i64 S,.int .i64 W,.slice (some ⟨b,0,none⟩) xs.length xs.length,.int .i64 u] 253 (0,0))∧w.heap[b]? =some (.cells (sq Slt.enc xs []) 54 (0,0))∧a≠b∧Good S W xs
theorem Arr.keep {w w':World} {a b S W:Nat} {xs:List Slt} {u:Int} {l:List Nat} (h:Arr w a b S W xs u) (hc:Chg l w w') (ha:a∉l) (hb:b∉l):Arr w' a b S W xs u:=
 ⟨hc.keep h.1 ha,hc.keep h.2.1 hb,h.2.2⟩
theorem Arr.olda {w:World} {a b S W:Nat} {xs:List Slt} {u:Int} (h:Arr w a b S W xs u):a<w.heap.size:=ZS h.1
theorem Arr.oldb {w:World} {a b S W:Nat} {xs:List Slt} {u:Int} (h:Arr w a b S W xs u):b<w.heap.size:=ZS h.2.1
theorem Arr.sl {w:World} {a b S W:Nat} {xs:List Slt} {u:Int} (h:Arr w a b S W xs u) (li:Int):Sl w 11 (some ⟨b,Xc S li*W*11,none⟩) W (cat Slt.enc (seg W xs (Xc S li))):=by
 have hg:=h.2.2.2
 have hf:=hg.fit li
 refine ⟨by rw [Zo Slt.len,hg.seg_len],.inr ⟨b,_,_,_,_,rfl,h.2.1,?_⟩⟩
 rw [Yl,List.append_nil,Qen Slt.len,Qc3 Slt.len];rfl
theorem aset_nil (li:Int) (w:World):Calls Tryz.prog 194 #[.pointer none,.int .i64 li] w fun e w'=>e=.returned (.slice none 0 0)∧w=w':=by
 go_enter Tryz.func194,Tryz.ntmps194
 go_wp2
 go_ret
 exact ⟨rfl,rfl⟩
theorem aset_neg (a:Addr) (li:Int) (w:World) (h:li<0):Calls Tryz.prog 194 #[.pointer (some a),.int .i64 li] w fun e w'=>e=.returned (.slice none 0 0)∧w=w':=by
 have t1:decide (li<0)=true:=by simpa using h
 go_enter Tryz.func194,Tryz.ntmps194
 go_wp2
 go_ret
 exact ⟨rfl,rfl⟩
theorem Qb3 (a b S W:Nat) (xs:List Slt) (u li:Int) (w:World) (h:Arr w a b S W xs u) (h0:0≤li):
 Calls Tryz.prog 194 #[.pointer (some ⟨a,0,none⟩),.int .i64 li] w fun e w'=>e=.returned (.slice (some ⟨b,Xc S li*W*11,none⟩) W W)∧Chg [] w w':=by
 obtain ⟨ha,hb,hab,hg⟩:=h
 have t1:decide (li<0)=false:=by simp;omega
 have oa:=old ha
 have hf:=hg.fit li
 have hl:=hg.len
 have h64:=hg.len64
 have hw8:=hg.way8
 have hw1:=hg.way1
 obtain ⟨f,hfe⟩:∃f,Xc S li*W=f:=⟨_,rfl⟩
 have hfe':(Xc S li:Int)*(W:Int)=(f:Int):=by rw [←hfe,Int.natCast_mul]
 have HS:=Vh hg.sets
 rw [hfe] at hf ⊢
 rw [←hl] at hf
 obtain ⟨N,hN⟩:∃N,xs.length=N:=⟨_,rfl⟩
 rw [hN] at hf h64 ha
 have g1:(f:Int)+(W:Int)≤(N:Int):=by omega
 have g2:(N:Int)≤64:=by omega
 have g3:(1:Int)≤(W:Int):=by omega
 have g4:(0:Int)≤(f:Int):=by omega
 clear hfe hl hN hg
 go_enter Tryz.func194,Tryz.ntmps194
 go_wp2
 go_quiet (first |(go_at_call 224;exact J6 (geomSet_ok S li _ HS.out h0)))
 go_wp2
 go_ret
 exact ⟨by rw [Nat.add_sub_cancel_left];rfl,(Chg.refl _ _).drewN _⟩
end
section
set_option maxHeartbeats 1000000
attribute [local go_sem ↓] QA QQ QH Q8 QS QC Za QN Zs Zh Qm Ql heap_alloc Qo heap_setCell Qb ZF Z4 Z5 Z3
attribute [local go_sem] Qc Qa Qd Qj Qf Qe Qh Qi Qw ZE QZ Zq QO QG Q6 Q0 Q5 Zi Q9 QM QB QI Zj Q7 Qz QP Qt Qk Qs Qr Qq Qp Qg Zb Ze lit8 QF ZG Zr Zt Zd
attribute [local simp ↓] Qm Ql heap_alloc Qo heap_setCell Qb
attribute [local simp] Qc Qa Qd Qj Qf Qe Qh Qi Qw QB Qk Qs Qr Qq Qp Qg QF
theorem Qbt {fn:Func} {p t:Tmp} (h:fn.results=#[.cell p 54,.tmp t]) (tmps:Array Value) (w:World) (b:Nat) (s:Slt) (fr:Nat×Nat)
 (hp:tmps.getD p undef=.pointer (some ⟨b,0,none⟩)) (hb:w.heap[b]? =some (.cells (slc s) 54 fr)) (x:Value) (hx:tmps.getD t undef=x):
 (results fn tmps).run Tryz.prog w=.ok (.tuple #[.agg (slc s),x]) w:=by
 subst hx
 have hp':tmps[p]?.getD undef=.pointer (some ⟨b,0,none⟩):=by simpa using hp
 have:=run_loadVar_row (P:=Tryz.prog) w b 54 54 (slc s) fr _ hb Tryz.underlying54 rfl (by rw [QF];kernel_rfl)
 exact Tz93
theorem sl_nil (w:World) (c:Nat):Sl w 11 none 0 (cat Slt.enc []):=⟨rfl,.inl rfl⟩
theorem Qg8 (a b S W:Nat) (xs:List Slt) (u li:Int) (w:World) (h:Arr w a b S W xs u) (hn:∀x∈xs,Xv li x=false):
 Calls Tryz.prog 194 #[.pointer (some ⟨a,0,none⟩),.int .i64 li] w fun e w'=>∃(A:Option Addr) (n:Nat) (ys:List Slt),e=.returned (.slice A n n)∧Sl w' 11 A n (cat Slt.enc ys)∧n=ys.length∧n≤100000∧hit (Xv li) ys= -1∧Chg [] w w':=by
 by_cases h0:0≤li
 ·refine (Qb3 a b S W xs u li w h h0).mono ?_
  rintro e w' ⟨rfl,c⟩
  refine ⟨_,_,_,rfl,(h.keep c (by simp) (by simp)).sl li,(h.2.2.2.seg_len li).symm,by have:=h.2.2.2.way8;omega,Qby ?_,c⟩
  intro x hx
  exact hn x (List.mem_of_mem_drop (List.mem_of_mem_take hx))
 ·refine (aset_neg ⟨a,0,none⟩ li w (by omega)).mono ?_
  rintro e w' ⟨rfl,rfl⟩
  exact ⟨none,0,[],rfl,sl_nil _ 0,rfl,by omega,rfl,Chg.refl _ _⟩
theorem afind_nil (li:Int) (w:World):Calls Tryz.prog 130 #[.pointer none,.int .i64 li] w fun e w'=>e=.returned (.tuple #[.agg (slc sltZ),.bool false])∧Chg [] w w':=by
 go_enter Tryz.func130,Tryz.ntmps130
 go_wp2_with fail
 rw [←slcZ]
 have hz:(w.alloc (.cells (slc sltZ) 54)).heap[w.heap.size]? =some (.cells (slc sltZ) 54 (0,0)):=by simp
 have C0:=Vh ((Chg.refl [] w).alloc (.cells (slc sltZ) 54))
 generalize w.alloc (.cells (slc sltZ) 54)=w1 at hz C0 ⊢
 refine (aset_nil li w1).mono ?_
 rintro e w2 ⟨rfl,rfl⟩
 go_wp2_with fail
 refine (JG none 0 0 li [] w1 (sl_nil _ 0) rfl (by omega)).mono ?_
 rintro e w2 ⟨rfl,c2⟩
 have hz2:=c2.keep hz (by simp)
 have oz:=old hz2
 have HC:=Vh (C0.out.trans c2)
 clear hz c2
 rw [Qby (by simp)]
 go_wp2_with fail
 refine bodyPost_ret (v:=.tuple #[.agg (slc sltZ),.bool false]) ?_ (by rfl) ?_
 ·exact Qbt (by rfl) _ _ w.heap.size sltZ (0,0) (by rfl) (by simp [*,slcZ]) _ (by rfl)
 ·exact ⟨rfl,HC.out.putRow _ _ _ (.inr (Nat.le_refl _))⟩
theorem afind_any (a b S W:Nat) (xs:List Slt) (u li:Int) (w:World) (h:Arr w a b S W xs u):
 Calls Tryz.prog 130 #[.pointer (some ⟨a,0,none⟩),.int .i64 li] w fun e w'=>e=.returned (.tuple #[.agg (slc (Qn xs li)),.bool (Xt xs li)])∧Chg [] w w':=by
 have H:=Vh h
 rcases h.2.2.2.where li with ⟨k,y,e1,e2,hk,hy,hst,hli,h0,e3,e4,e5⟩|⟨e1,e2,e3,e4⟩
 ·rw [show Qn xs li=y by unfold Qn;rw [e2,hy],show Xt xs li=true by unfold Xt;rw [e2];simpa using e5]
  have HH:=Vh e3
  have hys:(seg W xs (Xc S li))[k]? =some y:=by rw [Qde _ _ _ hk];exact hy
  have HL:=Vh (h.2.2.2.seg_len li)
  have HY:=Vh hys
  have hw8:=h.2.2.2.way8
  clear h e1 e2 e3 e4 e5 hst hli hy hys
  go_enter Tryz.func130,Tryz.ntmps130
  go_wp2_with fail
  rw [←slcZ]
  have hz:(w.alloc (.cells (slc sltZ) 54)).heap[w.heap.size]? =some (.cells (slc sltZ) 54 (0,0)):=by simp
  have C0:=Vh ((Chg.refl [] w).alloc (.cells (slc sltZ) 54))
  generalize w.alloc (.cells (slc sltZ) 54)=w1 at hz C0 ⊢
  refine (Qb3 a b S W xs u li w1 (H.out.keep C0.out (by simp) (by simp)) h0).mono ?_
  rintro e w2 ⟨rfl,c2⟩
  have hz2:=c2.keep hz (by simp)
  have C2:=Vh (C0.out.trans c2)
  clear hz c2
  go_wp2_with fail
  refine (JG _ W W li _ w2 ((H.out.keep C2.out (by simp) (by simp)).sl li) HL.out.symm (by omega)).mono ?_
  rintro e w3 ⟨rfl,c3⟩
  rw [HH.out]
  have hz3:=c3.keep hz2 (by simp)
  have oz:=old hz3
  have C3:=Vh (C2.out.trans c3)
  obtain ⟨cs,t,f,hb,r1,r2⟩:=slt_elem (H.out.sl li) C3.out (by simp) hk HY.out
  have g1:(k:Int)<(W:Int):=by omega
  have g0:(0:Int)≤(k:Int):=by omega
  have g2:(W:Int)≤8:=by omega
  have t1:decide ((k:Int)<0)=false:=by simp
  clear hz2 c3
  go_wp2_with fail
  refine bodyPost_ret (v:=.tuple #[.agg (slc y),.bool true]) ?_ (by rfl) ?_
  ·exact Qbt (by rfl) _ _ w.heap.size y (0,0) (by rfl) (by simp [*]) _ (by rfl)
  ·exact ⟨rfl,C3.out.putRow _ _ _ (.inr (Nat.le_refl _))⟩
 ·rw [show Qn xs li=sltZ by unfold Qn;rw [e3,List.getElem?_eq_none (Nat.le_refl _)],show Xt xs li=false by unfold Xt;rw [e3];simp]
  have HN:=Vh e4
  clear h e1 e2 e3 e4
  go_enter Tryz.func130,Tryz.ntmps130
  go_wp2_with fail
  rw [←slcZ]
  have hz:(w.alloc (.cells (slc sltZ) 54)).heap[w.heap.size]? =some (.cells (slc sltZ) 54 (0,0)):=by simp
  have C0:=Vh ((Chg.refl [] w).alloc (.cells (slc sltZ) 54))
  generalize w.alloc (.cells (slc sltZ) 54)=w1 at hz C0 ⊢
  refine (Qg8 a b S W xs u li w1 (H.out.keep C0.out (by simp) (by simp)) HN.out).mono ?_
  rintro e w2 ⟨A,n,ys,rfl,s2,hn,hn1,hh,c2⟩
  have hz2:=c2.keep hz (by simp)
  have C2:=Vh (C0.out.trans c2)
  have S2:=Vh s2
  have HH:=Vh hh
  have HN1:=Vh hn
  clear hz c2 s2 hh hn
  go_wp2_with fail
  refine (JG A n n li ys w2 S2.out HN1.out hn1).mono ?_
  rintro e w3 ⟨rfl,c3⟩
  rw [HH.out]
  have hz3:=c3.keep hz2 (by simp)
  have oz:=old hz3
  have C3:=Vh (C2.out.trans c3)
  clear hz2 c3
  go_wp2_with fail
  refine bodyPost_ret (v:=.tuple #[.agg (slc sltZ),.bool false]) ?_ (by rfl) ?_
  ·exact Qbt (by rfl) _ _ w.heap.size sltZ (0,0) (by rfl) (by simp [*,slcZ]) _ (by rfl)
  ·exact ⟨rfl,C3.out.putRow _ _ _ (.inr (Nat.le_refl _))⟩
theorem aroom_any (a b S W:Nat) (xs:List Slt) (u li:Int) (w:World) (h:Arr w a b S W xs u):
 Calls Tryz.prog 198 #[.pointer (some ⟨a,0,none⟩),.int .i64 li] w fun e w'=>e=.returned (.tuple #[.bool (X5 S W xs li),.int .i64 (Y5 S W xs li)])∧Chg [] w w':=by
 have H:=Vh h
 by_cases h0:0≤li
 ·have HL:=Vh (h.2.2.2.seg_len li)
  have hw8:=h.2.2.2.way8
  rcases h.2.2.2.room li with ⟨k,y,e1,hk,hy,hst,e3,e4,_⟩|⟨e1,e2,e3⟩
  ·rw [show X5 S W xs li=true by unfold X5;rw [e1];simp [h0,hk],show Y5 S W xs li= -1 by unfold Y5;rw [e1,if_pos hk,if_neg (by omega)]]
   have HH:=Vh e3
   have t1:decide ((0:Int)≤(k:Int))=true:=by simp
   clear h e1 hy hst e3 e4
   go_enter Tryz.func198,Tryz.ntmps198
   go_wp2_with fail
   refine (Qb3 a b S W xs u li w H.out h0).mono ?_
   rintro e w2 ⟨rfl,c2⟩
   have C2:=Vh c2
   clear c2
   go_wp2_with fail
   refine (Qan _ W W _ w2 ((H.out.keep C2.out (by simp) (by simp)).sl li) HL.out.symm (by omega)).mono ?_
   rintro e w3 ⟨rfl,c3⟩
   rw [HH.out]
   go_wp2_with fail
   go_ret2
   exact ⟨rfl,C2.out.trans c3⟩
  ·rw [show X5 S W xs li=false by unfold X5;rw [e2];simp,show Y5 S W xs li=eld (seg W xs (Xc S li)) by unfold Y5;rw [e2,if_neg (by omega),if_neg (by omega)]]
   have HH:=Vh e1
   clear h e1 e2 e3
   go_enter Tryz.func198,Tryz.ntmps198
   go_wp2_with fail
   refine (Qb3 a b S W xs u li w H.out h0).mono ?_
   rintro e w2 ⟨rfl,c2⟩
   have C2:=Vh c2
   clear c2
   go_wp2_with fail
   refine (Qan _ W W _ w2 ((H.out.keep C2.out (by simp) (by simp)).sl li) HL.out.symm (by omega)).mono ?_
   rintro e w3 ⟨rfl,c3⟩
   rw [HH.out]
   have C3:=Vh (C2.out.trans c3)
   clear c3
   go_wp2_with fail
   refine (eldest_ok _ W W _ w3 ((H.out.keep C3.out (by simp) (by simp)).sl li) HL.out.symm (by omega)).mono ?_
   rintro e w4 ⟨rfl,c4⟩
   go_wp2_with fail
   go_ret2
   exact ⟨rfl,C3.out.trans c4⟩
 ·rw [show X5 S W xs li=false by unfold X5;simp;omega,show Y5 S W xs li= -1 by unfold Y5;rw [if_pos (by omega)]]
  clear h
  go_enter Tryz.func198,Tryz.ntmps198
  go_wp2_with fail
  refine (aset_neg ⟨a,0,none⟩ li w (by omega)).mono ?_
  rintro e w2 ⟨rfl,rfl⟩
  go_wp2_with fail
  refine (Qan none 0 0 [] w (sl_nil _ 0) rfl (by omega)).mono ?_
  rintro e w2 ⟨rfl,c2⟩
  rw [Qby (by simp)]
  have C2:=Vh c2
  clear c2
  go_wp2_with fail
  refine (eldest_ok none 0 0 [] w2 (sl_nil _ 0) rfl (by omega)).mono ?_
  rintro e w3 ⟨rfl,c3⟩
  go_wp2_with fail
  go_ret2
  exact ⟨rfl,C2.out.trans c3⟩
end
section
set_option maxHeartbeats 1000000
attribute [local go_sem ↓] QA QQ QH Q8 QS QC Za QN Zs Zh Qm Ql heap_alloc Qo heap_setCell Qb ZF Z4 Z5 Z3
attribute [local go_sem] Qc Qa Qd Qj Qf Qe Qh Qi Qw ZE QZ Zq QO QG Q6 Q0 Q5 Zi Q9 QM QB QI Zj Q7 Qz QP Qt Qk Qs Qr Qq Qp Qg Zb Ze lit8 QF ZG Zr Zt Zd
attribute [local simp ↓] Qm Ql heap_alloc Qo heap_setCell Qb
attribute [local simp] Qc Qa Qd Qj Qf Qe Qh Qi Qw QB Qk Qs Qr Qq Qp Qg QF
def ArrTo (w:World) (a b S W:Nat) (xs:List Slt) (u:Int) (v:Value) (e:Ending) (w':World):Prop:=e=.returned v∧Chg [a,b] w w'∧Arr w' a b S W xs u
theorem ArrTo.same {w w':World} {a b S W:Nat} {xs:List Slt} {u:Int} (h:Arr w a b S W xs u) (hc:Chg [] w w') (v:Value):ArrTo w a b S W xs u v (.returned v) w':=
 ⟨rfl,hc.mono (by simp),h.keep hc (by simp) (by simp)⟩
theorem Arr.putSlot {w:World} {a b S W:Nat} {xs:List Slt} {u:Int} (h:Arr w a b S W xs u) {k:Nat} {x:Slt} (hx:xs[k]? =some x) (y:Slt) (hg:Good S W (xs.set k y)):Arr (putRow w b (k*11) (slc y)) a b S W (xs.set k y) u:=by
 exact Tz100
theorem Arr.putUse {w:World} {a b S W:Nat} {xs:List Slt} {u:Int} (h:Arr w a b S W xs u) {k:Nat} {x:Slt} (hx:xs[k]? =some x) (n:Int) (hg:Good S W (xs.set k (x.use n))):Arr (w.setCell ⟨b,k*11+10,none⟩ (.int .i64 n)) a b S W (xs.set k (x.use n)) u:=by
 refine ⟨?_,?_,h.2.2.1,hg⟩
 ·rw [heap_setCell,if_neg h.2.2.1,List.length_set];exact h.1
 ·rw [heap_setCell,if_pos rfl,h.2.1,Qh,slt_use hx]
theorem adrop_any (a b S W:Nat) (xs:List Slt) (u li:Int) (w:World) (h:Arr w a b S W xs u):
 Calls Tryz.prog 150 #[.pointer (some ⟨a,0,none⟩),.int .i64 li] w (ArrTo w a b S W (dropXs xs li) u (.bool (Xt xs li))):=by
 have H:=Vh h
 have HG:=Vh (h.2.2.2.dropXs li)
 rcases h.2.2.2.where li with ⟨k,y,e1,e2,hk,hy,hst,hli,h0,e3,e4,e5⟩|⟨e1,e2,e3,e4⟩
 ·unfold dropXs Xt at *
  rw [e2] at HG ⊢
  rw [show decide (Xc S li*W+k<xs.length)=true by simpa using e5]
  have HH:=Vh e3
  have HL:=Vh (h.2.2.2.seg_len li)
  have HY:=Vh hy
  have hw8:=h.2.2.2.way8
  obtain ⟨f,hf⟩:∃f,Xc S li*W=f:=⟨_,rfl⟩
  have HF:=Vh hf
  rw [hf] at hy ⊢ HG
  have rh:=Qcb hy [] 54
  have rp:=Qbr hy [] 54 (0,0) sltZ
  have hb:=h.2.1
  clear h e1 e2 e3 e4 e5 hst hli hy hf
  go_enter Tryz.func150,Tryz.ntmps150
  go_wp2_with fail
  refine (Qb3 a b S W xs u li w H.out h0).mono ?_
  rintro e w2 ⟨rfl,c2⟩
  have C2:=Vh c2
  clear c2
  go_wp2_with fail
  refine (JG _ W W li _ w2 ((H.out.keep C2.out (by simp) (by simp)).sl li) HL.out.symm (by omega)).mono ?_
  rintro e w3 ⟨rfl,c3⟩
  rw [HH.out,HF.out]
  have C3:=Vh (C2.out.trans c3)
  have hb3:=C3.out.keep hb (by simp)
  have ob3:=old hb3
  have g1:(k:Int)<(W:Int):=by omega
  have g0:(0:Int)≤(k:Int):=by omega
  have g2:(W:Int)≤8:=by omega
  have t1:decide ((k:Int)<0)=false:=by simp
  rw [Nat.add_mul] at rh rp
  clear c3 hb
  go_wp2_with fail
  go_ret
  refine ⟨rfl,?_,?_⟩
  ·exact ((C3.out.mono (l':=[a,b]) (by simp)).putRow _ _ _ (.inl (by simp)))
  ·have:=(H.out.keep C3.out (by simp) (by simp)).putSlot (k:=f+k) (by rw [←HF.out];exact HY.out) sltZ HG.out
   rw [Nat.add_mul] at this
   exact this
 ·rw [show dropXs xs li=xs by unfold dropXs;rw [e3,Qcu],show Xt xs li=false by unfold Xt;rw [e3];simp]
  have HN:=Vh e4
  clear h e1 e2 e3 e4 HG
  go_enter Tryz.func150,Tryz.ntmps150
  go_wp2_with fail
  refine (Qg8 a b S W xs u li w H.out HN.out).mono ?_
  rintro e w2 ⟨A,n,ys,rfl,s2,hn,hn1,hh,c2⟩
  have C2:=Vh c2
  have S2:=Vh s2
  have HH:=Vh hh
  have HN1:=Vh hn
  clear c2 s2 hh hn
  go_wp2_with fail
  refine (JG A n n li ys w2 S2.out HN1.out hn1).mono ?_
  rintro e w3 ⟨rfl,c3⟩
  rw [HH.out]
  have C3:=Vh (C2.out.trans c3)
  clear c3
  go_wp2_with fail
  go_ret
  exact ArrTo.same H.out C3.out _
theorem Arr.next {w:World} {a b S W:Nat} {xs:List Slt} {u:Int} (h:Arr w a b S W xs u) (n:Int):Arr (w.setCell ⟨a,3,none⟩ (.int .i64 n)) a b S W xs n:=by
 refine ⟨?_,?_,h.2.2⟩
 ·rw [heap_setCell,if_pos rfl,h.1,Qh];rfl
 ·rw [heap_setCell,if_neg (Ne.symm h.2.2.1)];exact h.2.1
theorem next_ok (a b S W:Nat) (xs:List Slt) (u:Int) (w:World) (h:Arr w a b S W xs u) (h0:0≤u) (h1:u≤1000000000):
 Calls Tryz.prog 197 #[.pointer (some ⟨a,0,none⟩)] w fun e w'=>e=.returned (.int .i64 (u+1))∧w'=w.setCell ⟨a,3,none⟩ (.int .i64 (u+1)):=by
 have ha:=h.1
 have oa:=old ha
 have g1:u+1≤9223372036854775807:=by omega
 have g0: -9223372036854775808≤u+1:=by omega
 clear h
 go_enter Tryz.func197,Tryz.ntmps197
 go_wp2
 go_ret
 exact ⟨rfl,rfl⟩
theorem atouch_any (a b S W:Nat) (xs:List Slt) (u li:Int) (w:World) (h:Arr w a b S W xs u) (u0:0≤u) (u1:u≤1000000000):
 Calls Tryz.prog 132 #[.pointer (some ⟨a,0,none⟩),.int .i64 li] w (ArrTo w a b S W (touchXs xs u li) (J8 xs u li) (.tuple #[])):=by
 have H:=Vh h
 have HG:=Vh (h.2.2.2.touchXs u li)
 rcases h.2.2.2.where li with ⟨k,y,e1,e2,hk,hy,hst,hli,h0,e3,e4,e5⟩|⟨e1,e2,e3,e4⟩
 ·unfold touchXs J8 at *
  rw [e2,hy] at HG ⊢
  rw [if_pos e5]
  have HH:=Vh e3
  have HL:=Vh (h.2.2.2.seg_len li)
  have HY:=Vh hy
  have hw8:=h.2.2.2.way8
  obtain ⟨f,hf⟩:∃f,Xc S li*W=f:=⟨_,rfl⟩
  have HF:=Vh hf
  rw [hf] at hy HG ⊢
  have hce:=slt_us hy []
  have hb:=h.2.1
  have HAB:=Vh h.2.2.1
  clear h e1 e2 e3 e4 e5 hst hli hy hf
  go_enter Tryz.func132,Tryz.ntmps132
  go_wp2_with fail
  refine (Qb3 a b S W xs u li w H.out h0).mono ?_
  rintro e w2 ⟨rfl,c2⟩
  have C2:=Vh c2
  clear c2
  go_wp2_with fail
  refine (JG _ W W li _ w2 ((H.out.keep C2.out (by simp) (by simp)).sl li) HL.out.symm (by omega)).mono ?_
  rintro e w3 ⟨rfl,c3⟩
  rw [HH.out,HF.out]
  have C3:=Vh (C2.out.trans c3)
  have g1:(k:Int)<(W:Int):=by omega
  have g0:(0:Int)≤(k:Int):=by omega
  have g2:(W:Int)≤8:=by omega
  have t1:decide ((0:Int)≤(k:Int))=true:=by simp
  have A3:=Vh (H.out.keep C3.out (by simp) (by simp))
  clear c3 hb
  go_wp2_with fail
  refine (next_ok a b S W xs u w3 A3.out u0 u1).mono ?_
  rintro e w4 ⟨rfl,rfl⟩
  have A4:=Vh (A3.out.next (u+1))
  have C4:=Vh ((C3.out.mono (l':=[a,b]) (by simp)).setCell a 3 (.int .i64 (u+1)) (.inl (by simp)))
  have hb4:=A4.out.2.1
  generalize w3.setCell ⟨a,3,none⟩ (.int .i64 (u+1))=w4 at A4 C4 hb4 ⊢
  have ob4:=old hb4
  rw [Nat.add_mul] at hce
  go_wp2_with fail
  go_end0
  refine ⟨rfl,C4.out.setCell _ _ _ (.inl (by simp)),?_⟩
  have:=A4.out.putUse (k:=f+k) (by rw [←HF.out];exact HY.out) (u+1) HG.out
  rw [Nat.add_mul] at this
  exact this
 ·rw [show touchXs xs u li=xs by unfold touchXs;rw [e3,List.getElem?_eq_none (Nat.le_refl _)],show J8 xs u li=u by unfold J8;rw [e3,if_neg (by omega)]]
  have HN:=Vh e4
  clear h e1 e2 e3 e4 HG
  go_enter Tryz.func132,Tryz.ntmps132
  go_wp2_with fail
  refine (Qg8 a b S W xs u li w H.out HN.out).mono ?_
  rintro e w2 ⟨A,n,ys,rfl,s2,hn,hn1,hh,c2⟩
  have C2:=Vh c2
  have S2:=Vh s2
  have HH:=Vh hh
  have HN1:=Vh hn
  clear c2 s2 hh hn
  go_wp2_with fail
  refine (JG A n n li ys w2 S2.out HN1.out hn1).mono ?_
  rintro e w3 ⟨rfl,c3⟩
  rw [HH.out]
  have C3:=Vh (C2.out.trans c3)
  clear c3
  go_wp2_with fail
  go_end0
  exact ArrTo.same H.out C3.out _
theorem asetl_bad (a:Addr) (li st:Int) (l:List Int) (w:World) (h:XT li st):Calls Tryz.prog 140 #[.pointer (some a),.int .i64 li,.int .i64 st,.agg (vs l)] w fun e w'=>e=.returned (.int .i64 1)∧Chg [] w w':=by
 by_cases h1:li<0
 ·have t1:decide (li<0)=true:=by simpa using h1
  clear h
  go_enter Tryz.func140,Tryz.ntmps140
  go_wp2
  exact Tz70
 ·have t1:decide (li<0)=false:=by simpa using h1
  by_cases h2:st<1
  ·have t2:decide (st<1)=true:=by simpa using h2
   clear h
   go_enter Tryz.func140,Tryz.ntmps140
   go_wp2
   exact Tz70
  ·have t2:decide (st<1)=false:=by simpa using h2
   have t3:decide (9<st)=true:=by unfold XT at h;simp;omega
   clear h
   go_enter Tryz.func140,Tryz.ntmps140
   go_wp2
   exact Tz70
theorem next_chg (a b S W:Nat) (xs:List Slt) (u:Int) (w:World) (h:Arr w a b S W xs u) (h0:0≤u) (h1:u≤1000000000):
 Calls Tryz.prog 197 #[.pointer (some ⟨a,0,none⟩)] w fun e w'=>e=.returned (.int .i64 (u+1))∧Chg [a] w w'∧Arr w' a b S W xs (u+1):=
 (next_ok a b S W xs u w h h0 h1).mono fun e w' ⟨he,hw⟩=>⟨he,by rw [hw];exact (Chg.refl _ _).setCell _ _ _ (.inl (by simp)),by rw [hw];exact h.next _⟩
theorem asetl_any (a b S W:Nat) (xs:List Slt) (u li st:Int) (l:List Int) (hl8:l.length=8) (w:World) (h:Arr w a b S W xs u) (u0:0≤u) (u1:u≤1000000000):
 Calls Tryz.prog 140 #[.pointer (some ⟨a,0,none⟩),.int .i64 li,.int .i64 st,.agg (vs l)] w (ArrTo w a b S W (setXs S W xs u li st l hl8) (setU S W xs u li st) (.int .i64 (Qds S W xs li st))):=by
 have H:=Vh h
 have HG:=Vh (h.2.2.2.setXs u li st l hl8)
 unfold setXs setU Qds at *
 by_cases hbad:XT li st
 ·rw [if_pos hbad,if_pos hbad,if_pos hbad]
  exact (asetl_bad ⟨a,0,none⟩ li st l w hbad).mono fun e w' ⟨he,hc⟩=>by rw [he];exact ArrTo.same h hc _
 rw [if_neg hbad] at HG ⊢
 rw [if_neg hbad,if_neg hbad]
 have h0:0≤li:=by unfold XT at hbad;omega
 have b1:decide (li<0)=false:=by simp;omega
 have b2:decide (st<1)=false:=by unfold XT at hbad;simp;omega
 have b3:decide (9<st)=false:=by unfold XT at hbad;simp;omega
 have HL:=Vh (h.2.2.2.seg_len li)
 have hw8:=h.2.2.2.way8
 have HAB:=Vh (show b∉[a] by have:=h.2.2.1;simp;omega)
 clear hbad
 rcases h.2.2.2.where li with ⟨k,y,e1,e2,hk,hy,hst,hli,_,e3,e4,e5⟩|⟨e1,e2,e3,e4⟩
 ·have ep:JS S W xs li=Xc S li*W+k:=by unfold JS;rw [e2,if_pos e5]
  rw [ep] at HG ⊢
  rw [if_pos e5,if_pos e5]
  have HH:=Vh e3
  obtain ⟨f,hf⟩:∃f,Xc S li*W=f:=⟨_,rfl⟩
  have HF:=Vh hf
  rw [hf] at hy HG ⊢
  have HY:=Vh hy
  clear h e1 e2 e3 e4 e5 hst hli hf ep
  go_enter Tryz.func140,Tryz.ntmps140
  go_wp2_with fail
  have hz:(w.alloc (.cells (vs l) 36)).heap[w.heap.size]? =some (.cells (vs l) 36 (0,0)):=by simp
  have C0:=Vh ((Chg.refl [] w).alloc (.cells (vs l) 36))
  generalize w.alloc (.cells (vs l) 36)=w1 at hz C0 ⊢
  refine (Qb3 a b S W xs u li w1 (H.out.keep C0.out (by simp) (by simp)) h0).mono ?_
  rintro e w2 ⟨rfl,c2⟩
  have hz2:=c2.keep hz (by simp)
  have C2:=Vh (C0.out.trans c2)
  clear hz c2
  go_wp2_with fail
  refine (JG _ W W li _ w2 ((H.out.keep C2.out (by simp) (by simp)).sl li) HL.out.symm (by omega)).mono ?_
  rintro e w3 ⟨rfl,c3⟩
  rw [HH.out]
  have C3:=Vh (C2.out.trans c3)
  have hz3:=c3.keep hz2 (by simp)
  clear c3 hz2
  rw [HF.out]
  have g1:(k:Int)<(W:Int):=by omega
  have g0:(0:Int)≤(k:Int):=by omega
  have g2:(W:Int)≤8:=by omega
  have t1:decide ((k:Int)<0)=false:=by simp
  have A3:=Vh (H.out.keep C3.out (by simp) (by simp))
  have oz3:=old hz3
  have HNZ:=Vh (show w.heap.size∉[a] by have:=H.out.olda;simp;omega)
  have HNZ2:=Vh (show w.heap.size∉[a,b] by have:=H.out.olda;have:=H.out.oldb;simp;omega)
  have HNB:=Vh (show (w.heap.size=b)=False by have:=H.out.oldb;simp;omega)
  have hnb:=HNB.out
  have rh:=Qcb hy [] 54
  have rp:=Qbr hy [] 54 (0,0) ⟨st,li,l,u+1,hl8⟩
  rw [Nat.add_mul] at rh rp
  go_wp2_with fail
  go_region_held3 (fun w'=>w'.heap[w.heap.size]? =some (.cells (vs l) 36 (0,0))) (first |exact hz3|exact c4.keep hz3 HNZ.out|exact ((c4.mono (l':=[a,b]) (by simp)).putRow b _ _ (.inl (by simp))).keep hz3 HNZ2.out)
   (first |(go_at_call 197;refine (next_chg a b S W xs u _ (A3.out.keep ((Chg.refl [] w3).drew) (by simp) (by simp)) u0 u1).mono ?_;rintro e w' ⟨rfl,c4,a4⟩;have hb4:=a4.2.1;have ob4:=old hb4))
  all_goals
   have A4:=Vh a4
   have C4:=Vh c4
   clear a4 c4
   go_wp2_with fail
   go_ret
   refine ⟨rfl,?_,?_⟩
   ·exact ((((C3.out.mono (l':=[a,b]) (by simp)).drew).trans (C4.out.mono (l':=[a,b]) (by simp))).putRow _ _ _ (.inl (by simp)))
   ·have:=A4.out.putSlot (k:=f+k) (by rw [←HF.out];exact (show xs[Xc S li*W+k]? =some y by rw [HF.out];exact HY.out)) ⟨st,li,l,u+1,hl8⟩ HG.out
    rw [Nat.add_mul] at this
    exact this
 ·rcases h.2.2.2.room li with ⟨k,y,d1,hk,hy,hst,d3,d4,_⟩|⟨d1,d2,d3⟩
  ·have ep:JS S W xs li=Xc S li*W+k:=by unfold JS;rw [e3,d1,if_neg (by omega),if_pos hk]
   rw [ep] at HG ⊢
   rw [if_pos d4,if_pos d4]
   have HH:=Vh e1
   have HI:=Vh d3
   obtain ⟨f,hf⟩:∃f,Xc S li*W=f:=⟨_,rfl⟩
   have HF:=Vh hf
   rw [hf] at hy HG ⊢
   have HY:=Vh hy
   clear h e1 e2 e3 e4 d1 d3 d4 hst hf ep
   go_enter Tryz.func140,Tryz.ntmps140
   go_wp2_with fail
   have hz:(w.alloc (.cells (vs l) 36)).heap[w.heap.size]? =some (.cells (vs l) 36 (0,0)):=by simp
   have C0:=Vh ((Chg.refl [] w).alloc (.cells (vs l) 36))
   generalize w.alloc (.cells (vs l) 36)=w1 at hz C0 ⊢
   refine (Qb3 a b S W xs u li w1 (H.out.keep C0.out (by simp) (by simp)) h0).mono ?_
   rintro e w2 ⟨rfl,c2⟩
   have hz2:=c2.keep hz (by simp)
   have C2:=Vh (C0.out.trans c2)
   clear hz c2
   go_wp2_with fail
   refine (JG _ W W li _ w2 ((H.out.keep C2.out (by simp) (by simp)).sl li) HL.out.symm (by omega)).mono ?_
   rintro e w3 ⟨rfl,c3⟩
   rw [HH.out]
   have C3:=Vh (C2.out.trans c3)
   have hz3:=c3.keep hz2 (by simp)
   clear c3 hz2
   go_wp2_with fail
   refine (Qan _ W W _ w3 ((H.out.keep C3.out (by simp) (by simp)).sl li) HL.out.symm (by omega)).mono ?_
   rintro e w3' ⟨rfl,c3'⟩
   rw [HI.out]
   have C3':=Vh (C3.out.trans c3')
   have hz3':=c3'.keep hz3 (by simp)
   clear c3' hz3 C3
   rw [HF.out]
   have g1:(k:Int)<(W:Int):=by omega
   have g0:(0:Int)≤(k:Int):=by omega
   have g2:(W:Int)≤8:=by omega
   have t1:decide ((k:Int)<0)=false:=by simp
   have A3:=Vh (H.out.keep C3'.out (by simp) (by simp))
   have oz3:=old hz3'
   have HNZ:=Vh (show w.heap.size∉[a] by have:=H.out.olda;simp;omega)
   have HNZ2:=Vh (show w.heap.size∉[a,b] by have:=H.out.olda;have:=H.out.oldb;simp;omega)
   have HNB:=Vh (show (w.heap.size=b)=False by have:=H.out.oldb;simp;omega)
   have hnb:=HNB.out
   have rh:=Qcb hy [] 54
   have rp:=Qbr hy [] 54 (0,0) ⟨st,li,l,u+1,hl8⟩
   rw [Nat.add_mul] at rh rp
   go_wp2_with fail
   go_region_held3 (fun w'=>w'.heap[w.heap.size]? =some (.cells (vs l) 36 (0,0))) (first |exact hz3'|exact c4.keep hz3' HNZ.out|exact ((c4.mono (l':=[a,b]) (by simp)).putRow b _ _ (.inl (by simp))).keep hz3' HNZ2.out)
    (first |(go_at_call 197;refine (next_chg a b S W xs u _ (A3.out.keep ((Chg.refl [] w3').drew) (by simp) (by simp)) u0 u1).mono ?_;rintro e w' ⟨rfl,c4,a4⟩;have hb4:=a4.2.1;have ob4:=old hb4))
   all_goals
    have A4:=Vh a4
    have C4:=Vh c4
    clear a4 c4
    go_wp2_with fail
    go_ret
    refine ⟨rfl,?_,?_⟩
    ·exact ((((C3'.out.mono (l':=[a,b]) (by simp)).drew).trans (C4.out.mono (l':=[a,b]) (by simp))).putRow _ _ _ (.inl (by simp)))
    ·have:=A4.out.putSlot (k:=f+k) (by rw [←HF.out];exact (show xs[Xc S li*W+k]? =some y by rw [HF.out];exact HY.out)) ⟨st,li,l,u+1,hl8⟩ HG.out
     rw [Nat.add_mul] at this
     exact this
  ·have ep:JS S W xs li=xs.length:=by unfold JS;rw [e3,d2,if_neg (by omega),if_neg (by omega)]
   rw [ep,Qcu,if_neg (by omega),if_neg (by omega)]
   have HH:=Vh e1
   have HI:=Vh d1
   clear h e1 e2 e3 e4 d1 d2 d3 ep
   go_enter Tryz.func140,Tryz.ntmps140
   go_wp2_with fail
   have hz:(w.alloc (.cells (vs l) 36)).heap[w.heap.size]? =some (.cells (vs l) 36 (0,0)):=by simp
   have C0:=Vh ((Chg.refl [] w).alloc (.cells (vs l) 36))
   generalize w.alloc (.cells (vs l) 36)=w1 at hz C0 ⊢
   refine (Qb3 a b S W xs u li w1 (H.out.keep C0.out (by simp) (by simp)) h0).mono ?_
   rintro e w2 ⟨rfl,c2⟩
   have hz2:=c2.keep hz (by simp)
   have C2:=Vh (C0.out.trans c2)
   clear hz c2
   go_wp2_with fail
   refine (JG _ W W li _ w2 ((H.out.keep C2.out (by simp) (by simp)).sl li) HL.out.symm (by omega)).mono ?_
   rintro e w3 ⟨rfl,c3⟩
   rw [HH.out]
   have C3:=Vh (C2.out.trans c3)
   have hz3:=c3.keep hz2 (by simp)
   clear c3 hz2
   go_wp2_with fail
   refine (Qan _ W W _ w3 ((H.out.keep C3.out (by simp) (by simp)).sl li) HL.out.symm (by omega)).mono ?_
   rintro e w3' ⟨rfl,c3'⟩
   rw [HI.out]
   have C3':=Vh (C3.out.trans c3')
   have hz3':=c3'.keep hz3 (by simp)
   clear c3' hz3 C3
   go_wp2_with fail
   go_ret
   exact ArrTo.same H.out C3'.out _
end
section
set_option maxHeartbeats 1000000
attribute [local go_sem ↓] QA QQ QH Q8 QS QC Za QN Zs Zh Qm Ql heap_alloc Qo heap_setCell Qb ZF Z4 Z5 Z3
attribute [local go_sem] Qc Qa Qd Qj Qf Qe Qh Qi Qw ZE QZ Zq QO QG Q6 Q0 Q5 Zi Q9 QM QB QI Zj Q7 Qz QP Qt Qk Qs Qr Qq Qp Qg Zb Ze lit8 QF ZG Zr Zt Zd
attribute [local simp ↓] Qm Ql heap_alloc Qo heap_setCell Qb
attribute [local simp] Qc Qa Qd Qj Qf Qe Qh Qi Qw QB Qk Qs Qr Qq Qp Qg QF
theorem YM:Wide Tryz.prog 197 11:=⟨⟨_,Tryz.underlying197,by rfl⟩,by kernel_rfl⟩
theorem YE (x:Value):Instr.loadAt 197 x=Qc8 197 11 x:=rfl
theorem Yj (x y:Value):Instr.storeAt 197 x y=JW 197 11 x y:=rfl
attribute [local go_sem ↓] YE Yj
attribute [local go_sem] YM
theorem rslot_info:(Tryz.prog.info? 197).map (fun i=>(i.zero,i.size,i.bytes))=some (some sltV,11,88):=by kernel_rfl
theorem eltRSlot:Elt Tryz.prog 123 197 11 88 sltV Slt.enc where
 slice:=Tryz.underlying123
 info:=rslot_info
 zero:=sltV_size
 zone:=sltV_one
 pos:=by omega
 len:=Slt.len
 one:=Slt.one
def RArr (w:World) (a b S W:Nat) (xs:List Slt) (u:Int):Prop:=
 w.heap[a]? =some (.cells #[.int .i64 S,.int .i64 W,.slice (some ⟨b,0,none⟩) xs.length xs.length,.int .i64 u] 199 (0,0))∧w.heap[b]? =some (.cells (sq Slt.enc xs []) 197 (0,0))∧a≠b∧Good S W xs
theorem RArr.keep {w w':World} {a b S W:Nat} {xs:List Slt} {u:Int} {l:List Nat} (h:RArr w a b S W xs u) (hc:Chg l w w') (ha:a∉l) (hb:b∉l):RArr w' a b S W xs u:=
 ⟨hc.keep h.1 ha,hc.keep h.2.1 hb,h.2.2⟩
theorem RArr.olda {w:World} {a b S W:Nat} {xs:List Slt} {u:Int} (h:RArr w a b S W xs u):a<w.heap.size:=ZS h.1
theorem RArr.oldb {w:World} {a b S W:Nat} {xs:List Slt} {u:Int} (h:RArr w a b S W xs u):b<w.heap.size:=ZS h.2.1
theorem RArr.putSlot {w:World} {a b S W:Nat} {xs:List Slt} {u:Int} (h:RArr w a b S W xs u) {k:Nat} {x:Slt} (hx:xs[k]? =some x) (y:Slt) (hg:Good S W (xs.set k y)):RArr (putRow w b (k*11) (slc y)) a b S W (xs.set k y) u:=by
 exact Tz100
theorem RArr.putUse {w:World} {a b S W:Nat} {xs:List Slt} {u:Int} (h:RArr w a b S W xs u) {k:Nat} {x:Slt} (hx:xs[k]? =some x) (n:Int) (hg:Good S W (xs.set k (x.use n))):RArr (w.setCell ⟨b,k*11+10,none⟩ (.int .i64 n)) a b S W (xs.set k (x.use n)) u:=by
 refine ⟨?_,?_,h.2.2.1,hg⟩
 ·rw [heap_setCell,if_neg h.2.2.1,List.length_set];exact h.1
 ·rw [heap_setCell,if_pos rfl,h.2.1,Qh,slt_use hx]
theorem RArr.next {w:World} {a b S W:Nat} {xs:List Slt} {u:Int} (h:RArr w a b S W xs u) (n:Int):RArr (w.setCell ⟨a,3,none⟩ (.int .i64 n)) a b S W xs n:=by
 refine ⟨?_,?_,h.2.2⟩
 ·rw [heap_setCell,if_pos rfl,h.1,Qh];rfl
 ·rw [heap_setCell,if_neg (Ne.symm h.2.2.1)];exact h.2.1
def RArrTo (w:World) (a b S W:Nat) (xs:List Slt) (u:Int) (v:Value) (e:Ending) (w':World):Prop:=e=.returned v∧Chg [a,b] w w'∧RArr w' a b S W xs u
theorem RArrTo.same {w w':World} {a b S W:Nat} {xs:List Slt} {u:Int} (h:RArr w a b S W xs u) (hc:Chg [] w w') (v:Value):RArrTo w a b S W xs u v (.returned v) w':=
 ⟨rfl,hc.mono (by simp),h.keep hc (by simp) (by simp)⟩
theorem rgeom_ok (S:Nat) (li:Int) (w:World) (h:S=1∨S=2∨S=4∨S=8) (h0:0≤li):Calls Tryz.prog 233 #[.int .i64 S,.int .i64 li] w fun e w'=>e=.returned (.int .i64 (Xc S li))∧w=w':=by
 obtain ⟨m,rfl⟩:=Int.eq_ofNat_of_zero_le h0
 have t1:decide ((m:Int)<0)=false:=by simp
 unfold Xc
 rw [Int.toNat_natCast]
 rcases h with rfl|rfl|rfl|rfl
 all_goals
  go_enter Tryz.func233,Tryz.ntmps233
  go_wp2
  go_ret
  exact ⟨by first |rfl|(simp;done)|(simp;omega)|trace_state,rfl⟩
theorem rrest_ok (s:Int) (w:World):Calls Tryz.prog 230 #[.int .i64 s] w fun e w'=>e=.returned (.bool (Xs s))∧w=w':=by
 by_cases h:1≤s
 ·have t1:decide (1≤s)=true:=by simpa using h
  have hr:Xs s=decide (s≤3):=by unfold Xs;rw [t1,Bool.true_and]
  rw [hr]
  go_enter Tryz.func230,Tryz.ntmps230
  go_wp2
  go_ret
  exact ⟨rfl,rfl⟩
 ·have t1:decide (1≤s)=false:=by simpa using h
  have hr:Xs s=false:=by unfold Xs;rw [t1,Bool.false_and]
  rw [hr]
  go_enter Tryz.func230,Tryz.ntmps230
  go_wp2
  go_ret
  exact ⟨rfl,rfl⟩
theorem rfirst_ok (a b S W:Nat) (xs:List Slt) (u li:Int) (w:World) (h:RArr w a b S W xs u) (h0:0≤li):
 Calls Tryz.prog 229 #[.pointer (some ⟨a,0,none⟩),.int .i64 li] w fun e w'=>e=.returned (.int .i64 (Xc S li*W:Nat))∧∃m,w'=w.drewN m:=by
 have ha:=h.1
 have hg:=h.2.2.2
 have oa:=old ha
 have hf:=hg.fit li
 have hl:=hg.len
 have h64:=hg.len64
 have hw8:=hg.way8
 obtain ⟨f,hfe⟩:∃f,Xc S li*W=f:=⟨_,rfl⟩
 have hfe':(Xc S li:Int)*(W:Int)=(f:Int):=by rw [←hfe,Int.natCast_mul]
 have HS:=Vh hg.sets
 rw [hfe] at hf ⊢
 rw [←hl] at hf
 obtain ⟨N,hN⟩:∃N,xs.length=N:=⟨_,rfl⟩
 rw [hN] at hf h64 ha
 have g1:(f:Int)+(W:Int)≤(N:Int):=by omega
 have g2:(N:Int)≤64:=by omega
 have g4:(0:Int)≤(f:Int):=by omega
 clear hfe hl hN hg h
 go_enter Tryz.func229,Tryz.ntmps229
 go_wp2
 go_quiet (first |(go_at_call 233;exact J6 (rgeom_ok S li _ HS.out h0)))
 go_wp2
 go_ret
 exact ⟨rfl,nq,rfl⟩
theorem Qd1 (a b S W:Nat) (xs:List Slt) (u li:Int) (w:World) (h:RArr w a b S W xs u):
 Calls Tryz.prog 219 #[.pointer (some ⟨a,0,none⟩),.int .i64 li] w fun e w'=>e=.returned (.int .i64 (hit (Xv li) xs))∧w=w':=by
 have ha:=h.1
 have hb:=h.2.1
 have h64:=h.2.2.2.len64
 obtain ⟨n,hn⟩:∃n,xs.length=n:=⟨_,rfl⟩
 have HN:=Vh hn
 rw [hn] at ha h64
 have g2:(n:Int)≤64:=by omega
 clear h hn
 go_enter Tryz.func219,Tryz.ntmps219
 go_wp2
 go_loop [5] (fun i=>∃k:Nat,k≤n∧i=.int .i64 k∧∀x∈xs.take k,Xv li x=false) (fun i=>n-(intOf i).toNat)
 case atStart=>exact ⟨0,by omega,rfl,by simp⟩
 case round=>
  obtain ⟨k,hk,rfl,hno⟩:=hrel
  have HNO:=Vh hno
  clear hno
  by_cases hlt:k<n
  ·obtain ⟨y,hy⟩:∃y,xs[k]? =some y:=⟨xs[k]'(by rw [HN.out];exact hlt),List.getElem?_eq_getElem _⟩
   have r1:=slt_st hy []
   have r2:=slt_li hy []
   have g1:(k:Int)<(n:Int):=by omega
   have g0:(0:Int)≤(k:Int):=by omega
   have HY:=Vh hy
   clear hy
   by_cases hs:y.st=0
   ·have t1:(y.st !=0)=false:=by simp [hs]
    have HP:=Vh (Qcs HY.out (show Xv li y=false by simp [Xv,hs]) HNO.out)
    go_wp2
    go_round
    case rel=>exact ⟨k+1,by omega,by go_num,HP.out⟩
    case measure=>simp [intOf];omega
   ·have t1:(y.st !=0)=true:=by simp [hs]
    by_cases hli:y.li=li
    ·have t2:(y.li==li)=true:=by simp [hli]
     have HP:=Vh (hit_at HY.out (show Xv li y=true by simp [Xv,hs,hli]) HNO.out)
     go_wp2
     go_ret
     exact ⟨by rw [HP.out];rfl,rfl⟩
    ·have t2:(y.li==li)=false:=by simp [hli]
     have HP:=Vh (Qcs HY.out (show Xv li y=false by simp [Xv,hs,hli]) HNO.out)
     go_wp2
     go_round
     case rel=>exact ⟨k+1,by omega,by go_num,HP.out⟩
     case measure=>simp [intOf];omega
  ·obtain rfl:k=n:=by omega
   go_wp2
   go_ret
   exact ⟨by rw [Qby (by have:=HNO.out;rw [←HN.out,List.take_length] at this;exact this)];rfl,rfl⟩
end
section
set_option maxHeartbeats 1000000
attribute [local go_sem ↓] QA QQ QH Q8 QS QC Za QN Zs Zh Qm Ql heap_alloc Qo heap_setCell Qb ZF Z4 Z5 Z3
attribute [local go_sem] Qc Qa Qd Qj Qf Qe Qh Qi Qw ZE QZ Zq QO QG Q6 Q0 Q5 Zi Q9 QM QB QI Zj Q7 Qz QP Qt Qk Qs Qr Qq Qp Qg Zb Ze lit8 QF ZG Zr Zt Zd
attribute [local simp ↓] Qm Ql heap_alloc Qo heap_setCell Qb
attribute [local simp] Qc Qa Qd Qj Qf Qe Qh Qi Qw QB Qk Qs Qr Qq Qp Qg QF
attribute [local go_sem ↓] YE Yj
attribute [local go_sem] YM
theorem Qd0 (a b S W:Nat) (xs:List Slt) (u li:Int) (f:Nat) (w:World) (h:RArr w a b S W xs u) (h0:0≤li) (hf:Xc S li*W=f):
 Calls Tryz.prog 229 #[.pointer (some ⟨a,0,none⟩),.int .i64 li] w fun e w'=>e=.returned (.int .i64 f)∧∃m,w'=w.drewN m:=by
 subst hf;exact rfirst_ok a b S W xs u li w h h0
theorem rfree_ok (a b S W:Nat) (xs:List Slt) (u li:Int) (w:World) (h:RArr w a b S W xs u) (h0:0≤li):
 Calls Tryz.prog 220 #[.pointer (some ⟨a,0,none⟩),.int .i64 li] w fun e w'=>e=.returned (.int .i64 (Qgu S W xs li))∧Chg [] w w':=by
 have H:=Vh h
 have ha:=h.1
 have hb:=h.2.1
 have hg:=h.2.2.2
 have hf:=hg.fit li
 have hl:=hg.len
 have h64:=hg.len64
 have hw8:=hg.way8
 obtain ⟨f,hfe⟩:∃f,Xc S li*W=f:=⟨_,rfl⟩
 have HS:=Vh (hg.seg_len li)
 obtain ⟨ys,hys⟩:∃ys,seg W xs (Xc S li)=ys:=⟨_,rfl⟩
 have HGET:=Vh (show ∀k,k<W→ys[k]? =xs[f+k]? by intro k hk;rw [←hys,Qde _ _ _ hk,hfe])
 have HF:=Vh hfe
 have HFR:=Vh (show Qgu S W xs li=if ys.findIdx YZ<W then ((f+ys.findIdx YZ:Nat):Int) else -1 by unfold Qgu;rw [hys,hfe])
 rw [hys] at HS
 rw [hfe] at hf
 rw [←hl] at hf
 have HX:=Vh hf
 obtain ⟨N,hN⟩:∃N,xs.length=N:=⟨_,rfl⟩
 rw [hN] at hf h64 ha
 have g1:(f:Int)+(W:Int)≤(N:Int):=by omega
 have g2:(N:Int)≤64:=by omega
 have g4:(0:Int)≤(f:Int):=by omega
 clear hfe hl hN hg h hys
 go_enter Tryz.func220,Tryz.ntmps220
 go_wp2_with fail
 refine (rfirst_ok a b S W xs u li w H.out h0).mono ?_
 rintro e w1 ⟨rfl,m,rfl⟩
 rw [HF.out]
 go_wp2_with fail
 go_loopw [5] (fun i wr=>∃k:Nat,k≤W∧i=.int .i64 ((f+k:Nat):Int)∧Chg [] w wr∧∀x∈ys.take k,YZ x=false) (fun i _=>f+W-(intOf i).toNat)
 case atStart=>exact ⟨0,by omega,rfl,(Chg.refl _ _).drewN _,by simp⟩
 case round=>
  obtain ⟨k,hk,rfl,hc,hno⟩:=hrel
  have HC:=Vh hc
  have HNO:=Vh hno
  have ha1:=hc.keep ha (by simp)
  have hb1:=hc.keep hb (by simp)
  clear hc hno
  have g0:(0:Int)≤((f+k:Nat):Int):=by omega
  by_cases hlt:k<W
  ·have g3:((f+k:Nat):Int)<(N:Int):=by omega
   have g5:((f+k:Nat):Int)<(f:Int)+(W:Int):=by omega
   obtain ⟨y,hy⟩:∃y,xs[f+k]? =some y:=⟨xs[f+k]'(by have:=HX.out;omega),List.getElem?_eq_getElem _⟩
   have r1:=slt_st hy []
   have HY:=Vh (show ys[k]? =some y by rw [HGET.out k hlt,hy])
   clear hy ha hb
   go_wp2_with fail
   go_quiet (first |(go_at_call 229;exact Calls.quiet_of (Qd0 a b S W xs u li f _ (H.out.keep (HC.out.drewN _) (by simp) (by simp)) h0 HF.out)))
   by_cases hs:y.st=0
   ·have t1:(y.st==0)=true:=by simp [hs]
    have HP:=Vh (Qdk HY.out (show YZ y=true by simp [YZ,hs]) HNO.out)
    go_wp2_with fail
    go_ret
    exact ⟨by rw [HFR.out,HP.out,if_pos hlt];rfl,HC.out.drewN _⟩
   ·have t1:(y.st==0)=false:=by simp [hs]
    have HP:=Vh (Qcs HY.out (show YZ y=false by simp [YZ,hs]) HNO.out)
    go_wp2_with fail
    go_roundw
    case rel=>exact ⟨k+1,by omega,by go_num,HC.out.drewN _,HP.out⟩
    case measure=>simp [intOf];omega
  ·obtain rfl:k=W:=by omega
   go_wp2_with fail
   go_quiet (first |(go_at_call 229;exact Calls.quiet_of (Qd0 a b S k xs u li f _ (H.out.keep (HC.out.drewN _) (by simp) (by simp)) h0 HF.out)))
   go_wp2_with fail
   go_ret
   have e1:ys.findIdx YZ=k:=by
    have:ys.findIdx YZ=ys.length:=List.findIdx_eq_length.2 (by intro x hx;have h1:=HNO.out;rw [←HS.out,List.take_length] at h1;simpa using h1 x hx)
    rw [this,HS.out]
   exact ⟨by rw [HFR.out,e1,if_neg (by omega)];rfl,HC.out.drewN _⟩
theorem rsetl_at (a b S W:Nat) (xs:List Slt) (u li st:Int) (l:List Int) (hl8:l.length=8) (w:World) (h:RArr w a b S W xs u) (u0:0≤u) (u1:u≤1000000000) (hb1:¬XT li st) (k:Nat) (y:Slt) (hk:xs[k]? =some y) (hh:hit (Xv li) xs=(k:Int)) (hgd:0≤li∧k / W=Xc S li):
 Calls Tryz.prog 170 #[.pointer (some ⟨a,0,none⟩),.int .i64 li,.int .i64 st,.agg (vs l)] w (RArrTo w a b S W (xs.set k ⟨st,li,l,u+1,hl8⟩) (u+1) (.int .i64 0)):=by
 have H:=Vh h
 have b1:decide (li<0)=false:=by unfold XT at hb1;simp;omega
 have b2:decide (st<1)=false:=by unfold XT at hb1;simp;omega
 have b3:decide (9<st)=false:=by unfold XT at hb1;simp;omega
 have HH:=Vh hh
 have HB:=Vh hb1
 have HGD:=Vh hgd
 clear hgd
 have h64:=h.2.2.2.len64
 have hkl:=(Vg hk).1
 have rh:=Qcb hk [] 197
 have rp:=Qbr hk [] 197 (0,0) ⟨st,li,l,u+1,hl8⟩
 have HK:=Vh hk
 clear h hb1 hh hk
 go_enter Tryz.func170,Tryz.ntmps170
 go_wp2_with fail
 have hz:(w.alloc (.cells (vs l) 36)).heap[w.heap.size]? =some (.cells (vs l) 36 (0,0)):=by simp
 have C0:=Vh ((Chg.refl [] w).alloc (.cells (vs l) 36))
 generalize w.alloc (.cells (vs l) 36)=w1 at hz C0 ⊢
 refine (Qd1 a b S W xs u li w1 (H.out.keep C0.out (by simp) (by simp))).mono ?_
 rintro e w2 ⟨rfl,rfl⟩
 rw [HH.out]
 have A1:=Vh (H.out.keep C0.out (by simp) (by simp))
 have t1:decide ((k:Int)<0)=false:=by simp
 have ha:=A1.out.1
 have hb:=A1.out.2.1
 have oz:=old hz
 have oa:=old ha
 have ob:=old hb
 have hab:=A1.out.2.2.1
 have hba:b≠a:=fun e=>hab e.symm
 have hna:w.heap.size≠a:=by have:=H.out.olda;omega
 have hna':a≠w.heap.size:=by have:=H.out.olda;omega
 have hnb:w.heap.size≠b:=by have:=H.out.oldb;omega
 have hnb':b≠w.heap.size:=by have:=H.out.oldb;omega
 have g1:u+1≤9223372036854775807:=by omega
 have g0: -9223372036854775808≤u+1:=by omega
 have g3:(k:Int)<(xs.length:Int):=by omega
 have g4:(0:Int)≤(k:Int):=by omega
 have g2:(xs.length:Int)≤64:=by omega
 go_wp2_with fail
 go_region
 all_goals
  go_wp2_with fail
  go_ret
  refine ⟨rfl,?_,?_⟩
  ·exact ((((C0.out.mono (l':=[a,b]) (by simp)).setCell a 3 _ (.inl (by simp))).drew).putRow _ _ _ (.inl (by simp)))
  ·exact ((A1.out.next (u+1)).keep ((Chg.refl [] _).drew) (by simp) (by simp)).putSlot HK.out _ (H.out.2.2.2.put _ _ (fun _=>HGD.out))
theorem rsetl_room (a b S W:Nat) (xs:List Slt) (u li st:Int) (l:List Int) (hl8:l.length=8) (w:World) (h:RArr w a b S W xs u) (u0:0≤u) (u1:u≤1000000000) (hb1:¬XT li st) (k:Nat) (y:Slt) (hk:xs[k]? =some y) (hh:hit (Xv li) xs= -1) (hi:Qgu S W xs li=(k:Int)) (hgd:0≤li∧k / W=Xc S li):
 Calls Tryz.prog 170 #[.pointer (some ⟨a,0,none⟩),.int .i64 li,.int .i64 st,.agg (vs l)] w (RArrTo w a b S W (xs.set k ⟨st,li,l,u+1,hl8⟩) (u+1) (.int .i64 0)):=by
 have H:=Vh h
 have b1:decide (li<0)=false:=by unfold XT at hb1;simp;omega
 have b2:decide (st<1)=false:=by unfold XT at hb1;simp;omega
 have b3:decide (9<st)=false:=by unfold XT at hb1;simp;omega
 have HH:=Vh hh
 have HI:=Vh hi
 have h0:0≤li:=by unfold XT at hb1;omega
 have HB:=Vh hb1
 have HGD:=Vh hgd
 clear hgd
 have h64:=h.2.2.2.len64
 have hkl:=(Vg hk).1
 have rh:=Qcb hk [] 197
 have rp:=Qbr hk [] 197 (0,0) ⟨st,li,l,u+1,hl8⟩
 have HK:=Vh hk
 clear h hb1 hh hk hi
 go_enter Tryz.func170,Tryz.ntmps170
 go_wp2_with fail
 have hz:(w.alloc (.cells (vs l) 36)).heap[w.heap.size]? =some (.cells (vs l) 36 (0,0)):=by simp
 have C0:=Vh ((Chg.refl [] w).alloc (.cells (vs l) 36))
 generalize w.alloc (.cells (vs l) 36)=w1 at hz C0 ⊢
 refine (Qd1 a b S W xs u li w1 (H.out.keep C0.out (by simp) (by simp))).mono ?_
 rintro e w2 ⟨rfl,rfl⟩
 rw [HH.out]
 go_wp2_with fail
 refine (rfree_ok a b S W xs u li w1 (H.out.keep C0.out (by simp) (by simp)) h0).mono ?_
 rintro e w2 ⟨rfl,c2⟩
 rw [HI.out]
 have hz2:=c2.keep hz (by simp)
 have C1:=Vh (C0.out.trans c2)
 clear hz c2
 have A1:=Vh (H.out.keep C1.out (by simp) (by simp))
 have t1:decide ((k:Int)<0)=false:=by simp
 have ha:=A1.out.1
 have hb:=A1.out.2.1
 have oz:=old hz2
 have oa:=old ha
 have ob:=old hb
 have hab:=A1.out.2.2.1
 have hba:b≠a:=fun e=>hab e.symm
 have hna:w.heap.size≠a:=by have:=H.out.olda;omega
 have hna':a≠w.heap.size:=by have:=H.out.olda;omega
 have hnb:w.heap.size≠b:=by have:=H.out.oldb;omega
 have hnb':b≠w.heap.size:=by have:=H.out.oldb;omega
 have g1:u+1≤9223372036854775807:=by omega
 have g0: -9223372036854775808≤u+1:=by omega
 have g3:(k:Int)<(xs.length:Int):=by omega
 have g4:(0:Int)≤(k:Int):=by omega
 have g2:(xs.length:Int)≤64:=by omega
 go_wp2_with fail
 go_region
 all_goals
  go_wp2_with fail
  go_ret
  refine ⟨rfl,?_,?_⟩
  ·exact ((((C1.out.mono (l':=[a,b]) (by simp)).setCell a 3 _ (.inl (by simp))).drew).putRow _ _ _ (.inl (by simp)))
  ·exact ((A1.out.next (u+1)).keep ((Chg.refl [] _).drew) (by simp) (by simp)).putSlot HK.out _ (H.out.2.2.2.put _ _ (fun _=>HGD.out))
theorem rsetl_full (a b S W:Nat) (xs:List Slt) (u li st:Int) (l:List Int) (w:World) (h:RArr w a b S W xs u) (hb1:¬XT li st) (hh:hit (Xv li) xs= -1) (hi:Qgu S W xs li= -1):
 Calls Tryz.prog 170 #[.pointer (some ⟨a,0,none⟩),.int .i64 li,.int .i64 st,.agg (vs l)] w (RArrTo w a b S W xs u (.int .i64 13)):=by
 have H:=Vh h
 have b1:decide (li<0)=false:=by unfold XT at hb1;simp;omega
 have b2:decide (st<1)=false:=by unfold XT at hb1;simp;omega
 have b3:decide (9<st)=false:=by unfold XT at hb1;simp;omega
 have HH:=Vh hh
 have HI:=Vh hi
 have h0:0≤li:=by unfold XT at hb1;omega
 have HB:=Vh hb1
 have h64:=h.2.2.2.len64
 clear h hb1 hh hi
 go_enter Tryz.func170,Tryz.ntmps170
 go_wp2_with fail
 have hz:(w.alloc (.cells (vs l) 36)).heap[w.heap.size]? =some (.cells (vs l) 36 (0,0)):=by simp
 have C0:=Vh ((Chg.refl [] w).alloc (.cells (vs l) 36))
 generalize w.alloc (.cells (vs l) 36)=w1 at hz C0 ⊢
 refine (Qd1 a b S W xs u li w1 (H.out.keep C0.out (by simp) (by simp))).mono ?_
 rintro e w2 ⟨rfl,rfl⟩
 rw [HH.out]
 go_wp2_with fail
 refine (rfree_ok a b S W xs u li w1 (H.out.keep C0.out (by simp) (by simp)) h0).mono ?_
 rintro e w2 ⟨rfl,c2⟩
 rw [HI.out]
 have hz2:=c2.keep hz (by simp)
 have C1:=Vh (C0.out.trans c2)
 clear hz c2
 go_wp2_with fail
 go_ret
 exact RArrTo.same H.out C1.out _
theorem rsetl_bad (a:Nat) (li st:Int) (l:List Int) (w:World) (h:XT li st):Calls Tryz.prog 170 #[.pointer (some ⟨a,0,none⟩),.int .i64 li,.int .i64 st,.agg (vs l)] w fun e w'=>e=.returned (.int .i64 1)∧Chg [] w w':=by
 by_cases h1:li<0
 ·have t1:decide (li<0)=true:=by simpa using h1
  clear h
  go_enter Tryz.func170,Tryz.ntmps170
  go_wp2
  exact Tz70
 ·have t1:decide (li<0)=false:=by simpa using h1
  by_cases h2:st<1
  ·have t2:decide (st<1)=true:=by simpa using h2
   clear h
   go_enter Tryz.func170,Tryz.ntmps170
   go_wp2
   exact Tz70
  ·have t2:decide (st<1)=false:=by simpa using h2
   have t3:decide (9<st)=true:=by unfold XT at h;simp;omega
   clear h
   go_enter Tryz.func170,Tryz.ntmps170
   go_wp2
   exact Tz70
theorem rsetl_any (a b S W:Nat) (xs:List Slt) (u li st:Int) (l:List Int) (hl8:l.length=8) (w:World) (h:RArr w a b S W xs u) (u0:0≤u) (u1:u≤1000000000):
 Calls Tryz.prog 170 #[.pointer (some ⟨a,0,none⟩),.int .i64 li,.int .i64 st,.agg (vs l)] w (RArrTo w a b S W (setXs S W xs u li st l hl8) (setU S W xs u li st) (.int .i64 (Qds S W xs li st))):=by
 unfold setXs setU Qds
 by_cases hbad:XT li st
 ·rw [if_pos hbad,if_pos hbad,if_pos hbad]
  exact (rsetl_bad a li st l w hbad).mono fun e w' ⟨he,hc⟩=>by rw [he];exact RArrTo.same h hc _
 rw [if_neg hbad,if_neg hbad,if_neg hbad]
 have h0:0≤li:=by unfold XT at hbad;omega
 rcases h.2.2.2.where li with ⟨k,y,e1,e2,hk,hy,hst,hli,_,e3,e4,e5⟩|⟨e1,e2,e3,e4⟩
 ·have ep:JS S W xs li=Xc S li*W+k:=by unfold JS;rw [e2,if_pos e5]
  rw [ep,if_pos e5,if_pos e5]
  exact rsetl_at a b S W xs u li st l hl8 w h u0 u1 hbad _ y hy e4 ⟨h0,div_of hk rfl⟩
 ·rcases h.2.2.2.room li with ⟨k,y,d1,hk,hy,hst,d3,d4,_⟩|⟨d1,d2,d3⟩
  ·have ep:JS S W xs li=Xc S li*W+k:=by unfold JS;rw [e3,d1,if_neg (by omega),if_pos hk]
   rw [ep,if_pos d4,if_pos d4]
   exact rsetl_room a b S W xs u li st l hl8 w h u0 u1 hbad _ y hy e2 (by unfold Qgu;rw [d1,if_pos hk]) ⟨h0,div_of hk rfl⟩
  ·have ep:JS S W xs li=xs.length:=by unfold JS;rw [e3,d2,if_neg (by omega),if_neg (by omega)]
   rw [ep,Qcu,if_neg (by omega),if_neg (by omega)]
   exact rsetl_full a b S W xs u li st l w h hbad e2 (by unfold Qgu;rw [d2,if_neg (by omega)])
end
section
set_option maxHeartbeats 1000000
attribute [local go_sem ↓] QA QQ QH Q8 QS QC Za QN Zs Zh Qm Ql heap_alloc Qo heap_setCell Qb ZF Z4 Z5 Z3
attribute [local go_sem] Qc Qa Qd Qj Qf Qe Qh Qi Qw ZE QZ Zq QO QG Q6 Q0 Q5 Zi Q9 QM QB QI Zj Q7 Qz QP Qt Qk Qs Qr Qq Qp Qg Zb Ze lit8 QF ZG Zr Zt ZC Zd
attribute [local simp ↓] Qm Ql heap_alloc Qo heap_setCell Qb
attribute [local simp] Qc Qa Qd Qj Qf Qe Qh Qi Qw QB Qk Qs Qr Qq Qp Qg QF
attribute [local go_sem ↓] YE Yj
attribute [local go_sem] YM
theorem rtouch_any (a b S W:Nat) (xs:List Slt) (u li:Int) (w:World) (h:RArr w a b S W xs u) (u0:0≤u) (u1:u≤1000000000):
 Calls Tryz.prog 168 #[.pointer (some ⟨a,0,none⟩),.int .i64 li] w (RArrTo w a b S W (touchXs xs u li) (J8 xs u li) (.tuple #[])):=by
 have H:=Vh h
 have HG:=Vh (h.2.2.2.touchXs u li)
 rcases Qgo (Xv li) xs with ⟨k,y,e1,e2,e3,e4,e5,e6⟩|⟨e1,e2,e3⟩
 ·unfold touchXs J8 at *
  rw [e2,e3] at HG ⊢
  rw [if_pos e5]
  have HH:=Vh e1
  have HY:=Vh e3
  have ha:=h.1
  have hb:=h.2.1
  have oa:=old ha
  have ob:=old hb
  have hab:=h.2.2.1
  have hba:b≠a:=fun e=>hab e.symm
  have h64:=h.2.2.2.len64
  have hce:=slt_us e3 []
  have g1:u+1≤9223372036854775807:=by omega
  have g0: -9223372036854775808≤u+1:=by omega
  have g3:(k:Int)<(xs.length:Int):=by omega
  have g4:(0:Int)≤(k:Int):=by omega
  have g2:(xs.length:Int)≤64:=by omega
  have t1:decide ((0:Int)≤(k:Int))=true:=by simp
  clear h e1 e2 e3 e4 e6
  go_enter Tryz.func168,Tryz.ntmps168
  go_wp2_with fail
  refine (Qd1 a b S W xs u li w H.out).mono ?_
  rintro e w2 ⟨rfl,rfl⟩
  rw [HH.out]
  go_wp2_with fail
  go_region
  all_goals
   go_wp2_with fail
   go_end0
   refine ⟨rfl,?_,?_⟩
   ·exact ((((Chg.refl [a,b] w).setCell a 3 _ (.inl (by simp))).drew).setCell _ _ _ (.inl (by simp)))
   ·exact ((H.out.next (u+1)).keep ((Chg.refl [] _).drew) (by simp) (by simp)).putUse HY.out _ HG.out
 ·rw [show touchXs xs u li=xs by unfold touchXs;rw [e2,List.getElem?_eq_none (Nat.le_refl _)],show J8 xs u li=u by unfold J8;rw [e2,if_neg (by omega)]]
  have HH:=Vh e1
  clear h e1 e2 e3 HG
  go_enter Tryz.func168,Tryz.ntmps168
  go_wp2_with fail
  refine (Qd1 a b S W xs u li w H.out).mono ?_
  rintro e w2 ⟨rfl,rfl⟩
  rw [HH.out]
  go_wp2_with fail
  go_end0
  exact RArrTo.same H.out (Chg.refl _ _) _
theorem rdrop_any (a b S W:Nat) (xs:List Slt) (u li:Int) (w:World) (h:RArr w a b S W xs u):
 Calls Tryz.prog 186 #[.pointer (some ⟨a,0,none⟩),.int .i64 li] w (RArrTo w a b S W (dropXs xs li) u (.bool (Xt xs li))):=by
 have H:=Vh h
 have HG:=Vh (h.2.2.2.dropXs li)
 rcases Qgo (Xv li) xs with ⟨k,y,e1,e2,e3,e4,e5,e6⟩|⟨e1,e2,e3⟩
 ·unfold dropXs Xt at *
  rw [e2] at HG ⊢
  rw [show decide (k<xs.length)=true by simpa using e5]
  have HH:=Vh e1
  have HY:=Vh e3
  have ha:=h.1
  have hb:=h.2.1
  have oa:=old ha
  have ob:=old hb
  have h64:=h.2.2.2.len64
  have rh:=Qcb e3 [] 197
  have rp:=Qbr e3 [] 197 (0,0) sltZ
  have g3:(k:Int)<(xs.length:Int):=by omega
  have g4:(0:Int)≤(k:Int):=by omega
  have g2:(xs.length:Int)≤64:=by omega
  have t1:decide ((k:Int)<0)=false:=by simp
  clear h e1 e2 e3 e4 e6
  go_enter Tryz.func186,Tryz.ntmps186
  go_wp2_with fail
  refine (Qd1 a b S W xs u li w H.out).mono ?_
  rintro e w2 ⟨rfl,rfl⟩
  rw [HH.out]
  go_wp2_with fail
  go_ret
  exact ⟨rfl,(Chg.refl _ _).putRow _ _ _ (.inl (by simp)),H.out.putSlot HY.out sltZ HG.out⟩
 ·rw [show dropXs xs li=xs by unfold dropXs;rw [e2,Qcu],show Xt xs li=false by unfold Xt;rw [e2];simp]
  have HH:=Vh e1
  clear h e1 e2 e3 HG
  go_enter Tryz.func186,Tryz.ntmps186
  go_wp2_with fail
  refine (Qd1 a b S W xs u li w H.out).mono ?_
  rintro e w2 ⟨rfl,rfl⟩
  rw [HH.out]
  go_wp2_with fail
  go_ret
  exact RArrTo.same H.out (Chg.refl _ _) _
def Qco (w0:World) (ys:List Slt) (e:Ending) (w':World):Prop:=∃A c,e=.returned (.slice A ys.length c)∧Sl w' 11 A ys.length (cat Slt.enc ys)∧Chg [] w0 w'
theorem slt_slice (w:World) (s:Slt) (t:TypeId):Sl (w.alloc (.cells (slc s) t)) 11 (some ⟨w.heap.size,0,none⟩) 1 (cat Slt.enc [s]):=
 ⟨by rw [Zo Slt.len];rfl,.inr ⟨w.heap.size,0,slc s,t,(0,0),rfl,by simp,by rw [JV];simp [slc,Slt.len,List.take_of_length_le]⟩⟩
theorem live_succ {xs:List Slt} {k:Nat} {y:Slt} (h:xs[k]? =some y) (hs:y.st≠0):live (xs.take k)++[y]=live (xs.take (k+1)):=by rw [live_take h,if_neg hs]
theorem live_skip {xs:List Slt} {k:Nat} {y:Slt} (h:xs[k]? =some y) (hs:y.st=0):live (xs.take k)=live (xs.take (k+1)):=by rw [live_take h,if_pos hs,List.append_nil]
theorem Qfd (xs:List Slt) (k:Nat):(live (xs.take k)).length≤k:=Nat.le_trans (live_le _) (by rw [List.length_take];exact Nat.min_le_left _ _)
theorem aslots_ok (a b S W:Nat) (xs:List Slt) (u:Int) (w:World) (h:Arr w a b S W xs u):
 Calls Tryz.prog 124 #[.pointer (some ⟨a,0,none⟩)] w (Qco w (live xs)):=by
 have ha:=h.1
 have HB:=Vh h.2.1
 have h64:=h.2.2.2.len64
 have HOA:=Vh h.olda
 obtain ⟨n,hn⟩:∃n,xs.length=n:=⟨_,rfl⟩
 have HN:=Vh hn
 rw [hn] at ha h64
 have g2:(n:Int)≤64:=by omega
 clear h hn
 go_enter Tryz.func124,Tryz.ntmps124
 go_wp2_with fail
 go_loopw [13,3] (fun i s3 wr=>∃(k be cap:Nat) (A:Option Addr),k≤n∧i=.int .i64 k∧s3=.slice A (live (xs.take k)).length cap∧Chg [] w wr∧Vec 11 54 Slt.enc wr a be A cap (live (xs.take k))∧(be=a∨w.heap.size≤be)) (fun i _ _=>n-(intOf i).toNat)
 case atStart=>exact ⟨0,a,0,none,by omega,rfl,rfl,Chg.refl _ _,Vec.nil _ _ _ _ _,.inl rfl⟩
 case round=>
  obtain ⟨k,be,cap,A,hk,rfl,rfl,hc,hv,hbe⟩:=hrel
  have HC:=Vh hc
  have HV:=Vh hv
  have HE:=Vh hbe
  clear hc hv hbe
  by_cases hlt:k<n
  ·obtain ⟨y,hy⟩:∃y,xs[k]? =some y:=⟨xs[k]'(by rw [HN.out];exact hlt),List.getElem?_eq_getElem _⟩
   have hb:=HC.out.keep HB.out (by simp)
   have ob:=old hb
   have r1:=slt_row hy [] 54 (0,0)
   have r2:=Qf8 hy [] 54 (0,0)
   have g1:(k:Int)<(n:Int):=by omega
   have g0:(0:Int)≤(k:Int):=by omega
   have HY:=Vh hy
   have HLE:=Vh (Qfd xs k)
   clear hy
   by_cases hs:y.st=0
   ·have t1:(y.st !=0)=false:=by simp [hs]
    have HP:=Vh (live_skip HY.out hs)
    go_wp2_with fail
    go_roundw
    case rel=>
     rw [HP.out]
     refine ⟨k+1,be,cap,A,by omega,by go_num,rfl,HC.out.alloc _,?_,HE.out⟩
     rw [←HP.out]
     exact HV.out.keep ((Chg.refl [] wr).alloc _) (by simp)
    case measure=>simp [intOf];omega
   ·have t1:(y.st !=0)=true:=by simp [hs]
    have HP:=Vh (live_succ HY.out hs)
    have c1:=(Chg.refl [] wr).alloc (.cells (slc y) 54)
    have hx1:(wr.alloc (.cells (slc y) 54)).heap[wr.heap.size]? =some (.cells (slc y) 54 (0,0)):=by simp
    have e1:(wr.alloc (.cells (slc y) 54)).heap.size=wr.heap.size+1:=by simp
    obtain ⟨be',cap',A',w2,happ,hv2,hbe2,hc2⟩:=Vec.acc (ty:=51) eltSlot (w0:=w) (((HC.out.alloc (.cells (slc y) 54)).alloc (.cells (slc y) 54)))
     ((HV.out.keep c1 (by simp)).keep ((Chg.refl [] _).alloc (.cells (slc y) 54)) (by simp)) HE.out HOA.out (slt_slice (wr.alloc (.cells (slc y) 54)) y 54) (c:=1) rfl (by have:=HLE.out;omega) (by have:=HLE.out;unfold maxLen;omega)
    rw [e1] at happ
    have HV2:=Vh hv2
    have HB2:=Vh hbe2
    have HC2:=Vh hc2
    clear hv2 hbe2 hc2 c1 e1
    exact Tz112
  ·obtain rfl:k=n:=by omega
   exact Tz143
theorem rslots_ok (a b S W:Nat) (xs:List Slt) (u:Int) (w:World) (h:RArr w a b S W xs u):
 Calls Tryz.prog 68 #[.pointer (some ⟨a,0,none⟩)] w (Qco w (live xs)):=by
 have HA:=Vh h.1
 have HB:=Vh h.2.1
 have h64:=h.2.2.2.len64
 have HOA:=Vh h.olda
 obtain ⟨n,hn⟩:∃n,xs.length=n:=⟨_,rfl⟩
 have HN:=Vh hn
 rw [hn] at HA h64
 have g2:(n:Int)≤64:=by omega
 clear h hn
 go_enter Tryz.func68,Tryz.ntmps68
 go_wp2_with fail
 go_loopw [4,3] (fun i s3 wr=>∃(k be cap:Nat) (A:Option Addr),k≤n∧i=.int .i64 k∧s3=.slice A (live (xs.take k)).length cap∧Chg [] w wr∧Vec 11 197 Slt.enc wr a be A cap (live (xs.take k))∧(be=a∨w.heap.size≤be)) (fun i _ _=>n-(intOf i).toNat)
 case atStart=>exact ⟨0,a,0,none,by omega,rfl,rfl,Chg.refl _ _,Vec.nil _ _ _ _ _,.inl rfl⟩
 case round=>
  obtain ⟨k,be,cap,A,hk,rfl,rfl,hc,hv,hbe⟩:=hrel
  have HC:=Vh hc
  have HV:=Vh hv
  have HE:=Vh hbe
  clear hc hv hbe
  have ha:=HC.out.keep HA.out (by simp)
  have hb:=HC.out.keep HB.out (by simp)
  have oa:=old ha
  have ob:=old hb
  by_cases hlt:k<n
  ·obtain ⟨y,hy⟩:∃y,xs[k]? =some y:=⟨xs[k]'(by rw [HN.out];exact hlt),List.getElem?_eq_getElem _⟩
   have r0:=slt_st hy []
   have r1:=slt_row hy [] 197 (0,0)
   have r2:=Qf8 hy [] 197 (0,0)
   have g1:(k:Int)<(n:Int):=by omega
   have g0:(0:Int)≤(k:Int):=by omega
   have HY:=Vh hy
   have HLE:=Vh (Qfd xs k)
   clear hy
   by_cases hs:y.st=0
   ·have t1:(y.st !=0)=false:=by simp [hs]
    have HP:=Vh (live_skip HY.out hs)
    go_wp2_with fail
    go_roundw
    case rel=>
     rw [HP.out]
     refine ⟨k+1,be,cap,A,by omega,by go_num,rfl,HC.out,?_,HE.out⟩
     rw [←HP.out]
     exact HV.out
    case measure=>simp [intOf];omega
   ·have t1:(y.st !=0)=true:=by simp [hs]
    have HP:=Vh (live_succ HY.out hs)
    obtain ⟨be',cap',A',w2,happ,hv2,hbe2,hc2⟩:=Vec.acc (ty:=123) eltRSlot (w0:=w) (HC.out.alloc (.cells (slc y) 197))
     (HV.out.keep ((Chg.refl [] _).alloc (.cells (slc y) 197)) (by simp)) HE.out HOA.out (slt_slice wr y 197) (c:=1) rfl (by have:=HLE.out;omega) (by have:=HLE.out;unfold maxLen;omega)
    have HV2:=Vh hv2
    have HB2:=Vh hbe2
    have HC2:=Vh hc2
    clear hv2 hbe2 hc2
    exact Tz112
  ·obtain rfl:k=n:=by omega
   exact Tz143
def YQ (s w:Int):Prop:=(s=1∨s=2∨s=4∨s=8)∧1≤w∧w≤8
instance (s w:Int):Decidable (YQ s w):=inferInstanceAs (Decidable (_∧_))
theorem run_make_slots (w:World) (n:Nat) (hn:n≤64):mkR Tryz.prog 51 (.int .i64 n) (.int .i64 n) w=.ok (.slice (some ⟨w.heap.size,0,none⟩) n n) (w.alloc (.cells (sq Slt.enc (List.replicate n sltZ) []) 54)):=by
 obtain ⟨i0,hi0,hz0,hz1,hz2⟩:=info_parts slot_info
 have:=run_make (P:=Tryz.prog) w 51 54 i0 _ Tryz.underlying51 hi0 hz0 .i64 .i64 n n (by omega) (by omega) (by rw [hz2];omega) (by omega)
 simp only [Int.toNat_natCast,hz1] at this
 rw [←made_slots]
 exact this
theorem Qgb (w:World) (n:Nat) (hn:n≤64):mkR Tryz.prog 123 (.int .i64 n) (.int .i64 n) w=.ok (.slice (some ⟨w.heap.size,0,none⟩) n n) (w.alloc (.cells (sq Slt.enc (List.replicate n sltZ) []) 197)):=by
 obtain ⟨i0,hi0,hz0,hz1,hz2⟩:=info_parts rslot_info
 have:=run_make (P:=Tryz.prog) w 123 197 i0 _ Tryz.underlying123 hi0 hz0 .i64 .i64 n n (by omega) (by omega) (by rw [hz2];omega) (by omega)
 simp only [Int.toNat_natCast,hz1] at this
 rw [←made_slots]
 exact this
def MadeArr (w0:World) (S W:Nat) (e:Ending) (w':World):Prop:=
 ∃a b,e=.returned (.tuple #[.pointer (some ⟨a,0,none⟩),.int .i64 0])∧w0.heap.size≤a∧w0.heap.size≤b∧Chg [] w0 w'∧Arr w' a b S W (List.replicate (S*W) sltZ) 0
theorem anew_ok (S W:Nat) (w:World) (h:YQ S W):Calls Tryz.prog 158 #[.int .i64 S,.int .i64 W] w (MadeArr w S W):=by
 have HS:=Vh (show S=1∨S=2∨S=4∨S=8 by unfold YQ at h;omega)
 have hW1:1≤W:=by unfold YQ at h;omega
 have hW8:W≤8:=by unfold YQ at h;omega
 have t1:decide ((W:Int)<1)=false:=by simp;omega
 have t2:decide ((8:Int)<(W:Int))=false:=by simp;omega
 have hS8:S≤8:=by have:=HS.out;omega
 have h64:S*W≤64:=Nat.mul_le_mul hS8 hW8
 have HG:=Vh (Good.new HS.out hW1 hW8)
 obtain ⟨N,hN⟩:∃N,S*W=N:=⟨_,rfl⟩
 have hN':(S:Int)*(W:Int)=(N:Int):=by rw [←hN,Int.natCast_mul]
 rw [hN] at h64 HG
 have hmk:=run_make_slots w N h64
 have g2:(N:Int)≤64:=by omega
 unfold MadeArr
 rw [hN]
 clear h hN
 go_enter Tryz.func158,Tryz.ntmps158
 go_wp2_with (go_at_call 215;refine (isSets_yes S _ HS.out).mono ?_;rintro e w' ⟨rfl,rfl⟩)
 go_ret2
 refine ⟨w.heap.size+1,w.heap.size,rfl,by omega,by omega,((Chg.refl [] w).alloc _).alloc _,?_,?_,by omega,HG.out⟩
 ·simp
 ·simp
def MadeRArr (w0:World) (S W N:Nat) (e:Ending) (w':World):Prop:=
 ∃a b,e=.returned (.tuple #[.pointer (some ⟨a,0,none⟩),.int .i64 0])∧w0.heap.size≤a∧w0.heap.size≤b∧Chg [] w0 w'∧RArr w' a b S W (List.replicate N sltZ) 0
theorem rnew_N (S W N:Nat) (w:World) (h:YQ S W) (hN:S*W=N):Calls Tryz.prog 160 #[.int .i64 S,.int .i64 W] w (MadeRArr w S W N):=by
 have HS:=Vh (show S=1∨S=2∨S=4∨S=8 by unfold YQ at h;omega)
 have hW1:1≤W:=by unfold YQ at h;omega
 have hW8:W≤8:=by unfold YQ at h;omega
 have t1:decide ((W:Int)<1)=false:=by simp;omega
 have t2:decide ((8:Int)<(W:Int))=false:=by simp;omega
 have hS8:S≤8:=by have:=HS.out;omega
 have h64:S*W≤64:=Nat.mul_le_mul hS8 hW8
 have HG:=Vh (Good.new HS.out hW1 hW8)
 have hN':(S:Int)*(W:Int)=(N:Int):=by rw [←hN,Int.natCast_mul]
 rw [hN] at h64 HG
 have hmk:=Qgb w N h64
 have g2:(N:Int)≤64:=by omega
 have hS:=HS.out
 clear h hN
 rcases hS with rfl|rfl|rfl|rfl
 ·obtain rfl:W=N:=by omega
  exact Tz50
 ·have hN2:(2:Int)*(W:Int)=(N:Int):=by omega
  exact Tz50
 ·have hN2:(4:Int)*(W:Int)=(N:Int):=by omega
  exact Tz50
 ·have hN2:(8:Int)*(W:Int)=(N:Int):=by omega
  exact Tz50
theorem rnew_ok (S W:Nat) (w:World) (h:YQ S W):Calls Tryz.prog 160 #[.int .i64 S,.int .i64 W] w (MadeRArr w S W (S*W)):=rnew_N S W _ w h rfl
end
section
set_option maxHeartbeats 1000000
attribute [local go_sem ↓] QA QQ QH Q8 QS QC Za QN Zs Zh Qm Ql heap_alloc Qo heap_setCell Qb ZF Z4 Z5 Z3
attribute [local go_sem] Qc Qa Qd Qj Qf Qe Qh Qi Qw ZE QZ Zq QO QG Q6 Q0 Q5 Zi Q9 QM QB QI Zj Q7 Qz QP Qt Qk Qs Qr Qq Qp Qg Zb Ze lit8 QF ZG Zr Zt ZC Zd
attribute [local simp ↓] Qm Ql heap_alloc Qo heap_setCell Qb
attribute [local simp] Qc Qa Qd Qj Qf Qe Qh Qi Qw QB Qk Qs Qr Qq Qp Qg QF
attribute [local go_sem ↓] YE Yj
attribute [local go_sem] YM
theorem Qft (s:Int) (b:Bool) (w:World) (h:Xs s=b):Calls Tryz.prog 230 #[.int .i64 s] w fun e w'=>e=.returned (.bool b)∧w=w':=by
 subst h;exact rrest_ok s w
def BestAt (xs:List Slt) (p:Int×Int) (best:Int):Prop:=(best= -1∧p=(-1,0))∨∃(j:Nat) (y:Slt),best=(j:Int)∧xs[j]? =some y∧p=(y.li,y.us)∧0≤y.li
theorem rvictim_ok (a b S W:Nat) (xs:List Slt) (u li:Int) (w:World) (h:RArr w a b S W xs u) (h0:0≤li):
 Calls Tryz.prog 221 #[.pointer (some ⟨a,0,none⟩),.int .i64 li] w fun e w'=>e=.returned (.int .i64 (eld (seg W xs (Xc S li))))∧Chg [] w w':=by
 have H:=Vh h
 have HA:=Vh h.1
 have HB:=Vh h.2.1
 have hg:=h.2.2.2
 have hf:=hg.fit li
 have hl:=hg.len
 have h64:=hg.len64
 have hw8:=hg.way8
 have HHOME:=Vh hg.home
 obtain ⟨f,hfe⟩:∃f,Xc S li*W=f:=⟨_,rfl⟩
 have HS:=Vh (hg.seg_len li)
 obtain ⟨ys,hys⟩:∃ys,seg W xs (Xc S li)=ys:=⟨_,rfl⟩
 have HGET:=Vh (show ∀k,k<W→ys[k]? =xs[f+k]? by intro k hk;rw [←hys,Qde _ _ _ hk,hfe])
 have HF:=Vh hfe
 rw [hys] at HS ⊢
 rw [hfe] at hf
 rw [←hl] at hf
 have HX:=Vh hf
 obtain ⟨N,hN⟩:∃N,xs.length=N:=⟨_,rfl⟩
 have HNN:=Vh hN
 rw [hN] at hf h64 HA
 have g1:(f:Int)+(W:Int)≤(N:Int):=by omega
 have g2:(N:Int)≤64:=by omega
 have g4:(0:Int)≤(f:Int):=by omega
 clear hfe hl hN hg h hys
 go_enter Tryz.func221,Tryz.ntmps221
 go_wp2_with fail
 refine (Qd0 a b S W xs u li f w H.out h0 HF.out).mono ?_
 rintro e w1 ⟨rfl,m,rfl⟩
 go_wp2_with fail
 go_loopw [6,5] (fun i s5 wr=>∃(k:Nat) (best:Int),k≤W∧i=.int .i64 ((f+k:Nat):Int)∧s5=.int .i64 best∧Chg [] w wr∧BestAt xs (eldS (ys.take k)) best) (fun i _ _=>f+W-(intOf i).toNat)
 case atStart=>exact ⟨0, -1,by omega,rfl,rfl,(Chg.refl _ _).drewN _,.inl ⟨rfl,rfl⟩⟩
 case round=>
  obtain ⟨k,best,hk,rfl,rfl,hc,hbest⟩:=hrel
  have HC:=Vh hc
  have HBE:=Vh hbest
  have ha1:=hc.keep HA.out (by simp)
  have hb1:=hc.keep HB.out (by simp)
  have oa1:=old ha1
  have ob1:=old hb1
  clear hc hbest
  have g0:(0:Int)≤((f+k:Nat):Int):=by omega
  by_cases hlt:k<W
  ·have g3:((f+k:Nat):Int)<(N:Int):=by omega
   have g5:((f+k:Nat):Int)<(f:Int)+(W:Int):=by omega
   have g6:(f:Int)+(k:Int)<(N:Int):=by omega
   have g7:(0:Int)≤(f:Int)+(k:Int):=by omega
   have g8:((f:Int)+(k:Int)).toNat=f+k:=by omega
   obtain ⟨y,hy⟩:∃y,xs[f+k]? =some y:=⟨xs[f+k]'(by have:=HX.out;omega),List.getElem?_eq_getElem _⟩
   have r1:=slt_st hy []
   have r3:=slt_us hy []
   have HY:=Vh (show ys[k]? =some y by rw [HGET.out k hlt,hy])
   have HXY:=Vh hy
   have HST:=Vh (eldS_take HY.out)
   have HLI:=Vh (HHOME.out _ y hy)
   clear hy
   go_wp2_with fail
   go_quiet (first |(go_at_call 229;exact Calls.quiet_of (Qd0 a b S W xs u li f _ (H.out.keep (HC.out.drewN _) (by simp) (by simp)) h0 HF.out)))
   have HCQ:=Vh (HC.out.drewN nq)
   have ha2:(wr.drewN nq).heap[a]? =_:=HCQ.out.keep HA.out (by simp)
   have hb2:(wr.drewN nq).heap[b]? =_:=HCQ.out.keep HB.out (by simp)
   clear ha1 hb1 oa1 ob1
   generalize wr.drewN nq=wq at HCQ ha2 hb2 ⊢
   by_cases hr:Xs y.st=true
   ·have HPOS:=Vh (show 0≤y.li from (HLI.out (by intro e;rw [e] at hr;cases hr)).1)
    rcases HBE.out with ⟨rfl,hp⟩|⟨j,z,rfl,hz,hp,hz0⟩
    ·have HP:=Vh (show eldS (ys.take (k+1))=(y.li,y.us) by rw [HST.out,hp];unfold JE;rw [hr];rfl)
     clear hp
     exact Tz96
    ·have j1:(j:Int)<(N:Int):=by have:=(Vg hz).1;have:=HNN.out;omega
     have j0:(0:Int)≤(j:Int):=by omega
     have z3:=slt_us hz []
     have tb:decide ((j:Int)<0)=false:=by simp
     have HZ:=Vh hz
     by_cases hu:y.us<z.us
     ·have HP:=Vh (show eldS (ys.take (k+1))=(y.li,y.us) by rw [HST.out,hp];unfold JE;rw [hr,if_pos (by simp [hu])])
      have tu:decide (y.us<z.us)=true:=by simpa using hu
      clear hp hz
      exact Tz96
     ·have HP:=Vh (show eldS (ys.take (k+1))=(z.li,z.us) by rw [HST.out,hp];unfold JE;rw [hr,if_neg (by simp;omega)])
      have tu:decide (y.us<z.us)=false:=by simpa using hu
      clear hp hz
      go_wp2_with fail
      go_quiet (first |(go_at_call 230;exact J6 (Qft y.st _ _ hr)))
      go_wp2_with fail
      go_roundw
      case rel=>exact ⟨k+1,_,by omega,by go_num,rfl,HCQ.out.drewN _,.inr ⟨j,z,rfl,HZ.out,HP.out,hz0⟩⟩
      case measure=>simp [intOf];omega
   ·have hr:Xs y.st=false:=by simpa using hr
    have HP:=Vh (show BestAt xs (eldS (ys.take (k+1))) best by rw [HST.out];unfold JE;rw [hr];exact HBE.out)
    go_wp2_with fail
    go_quiet (first |(go_at_call 230;exact J6 (Qft y.st _ _ hr)))
    go_wp2_with fail
    go_roundw
    case rel=>exact ⟨k+1,best,by omega,by go_num,rfl,HCQ.out.drewN _,HP.out⟩
    case measure=>simp [intOf];omega
  ·obtain rfl:k=W:=by omega
   have HALL:=Vh (show ys.take k=ys by rw [←HS.out,List.take_length])
   go_wp2_with fail
   go_quiet (first |(go_at_call 229;exact Calls.quiet_of (Qd0 a b S k xs u li f _ (H.out.keep (HC.out.drewN _) (by simp) (by simp)) h0 HF.out)))
   rcases HBE.out with ⟨rfl,hp⟩|⟨j,z,rfl,hz,hp,hz0⟩
   ·have HP:=Vh hp
    clear hp
    go_wp2_with fail
    go_ret
    exact ⟨by unfold eld;rw [←HALL.out,HP.out];rfl,HC.out.drewN _⟩
   ·have j1:(j:Int)<(N:Int):=by have:=(Vg hz).1;have:=HNN.out;omega
    have j0:(0:Int)≤(j:Int):=by omega
    have z3:=slt_li hz []
    have tb:decide ((j:Int)<0)=false:=by simp
    have HP:=Vh hp
    clear hp hz
    go_wp2_with fail
    go_ret
    exact ⟨by unfold eld;rw [←HALL.out,HP.out];rfl,HC.out.drewN _⟩
end
section
set_option maxHeartbeats 1000000
attribute [local go_sem ↓] QA QQ QH Q8 QS QC Za QN Zs Zh Qm Ql heap_alloc Qo heap_setCell Qb ZF Z4 Z5 Z3
attribute [local go_sem] Qc Qa Qd Qj Qf Qe Qh Qi Qw ZE QZ Zq QO QG Q6 Q0 Q5 Zi Q9 QM QB QI Zj Q7 Qz QP Qt Qk Qs Qr Qq Qp Qg Zb Ze lit8 QF ZG Zr Zt ZC Zd
attribute [local simp ↓] Qm Ql heap_alloc Qo heap_setCell Qb
attribute [local simp] Qc Qa Qd Qj Qf Qe Qh Qi Qw QB Qk Qs Qr Qq Qp Qg QF
attribute [local go_sem ↓] YE Yj
attribute [local go_sem] YM
theorem slt_all {w wr:World} {l:List Nat} {n b o k:Nat} {ys:List Slt} {y:Slt} (h:Sl w 11 (some ⟨b,o,none⟩) n (cat Slt.enc ys)) (hc:Chg l w wr) (hb:b∉l) (hk:k<n) (hy:ys[k]? =some y):
 ∃c t f,wr.heap[b]? =some (.cells c t f)∧c[o+k*11]? =some (.int .i64 y.st)∧c[o+k*11+1]? =some (.int .i64 y.li)∧c[o+k*11+10]? =some (.int .i64 y.us)∧JM (some (.cells c t f)) (o+k*11+2) 8=true∧Xq (some (.cells c t f)) (o+k*11+2) 8=vs y.l:=by
 obtain ⟨cs,t,f,hb,hce,hpa⟩:=(h.chg hc (by simpa using hb)).elem (by omega) hk (Je Slt.len hy)
 obtain ⟨r1,r2⟩:=hpa 2 8 (by omega)
 have h0:=hce 0 (by omega)
 rw [Nat.add_zero] at h0
 refine ⟨cs,t,f,hb,h0.trans rfl,(hce 1 (by omega)).trans rfl,(hce 10 (by omega)).trans (enc_us y),r1,?_⟩
 rw [r2,enc_line];rfl
theorem same_ok (A B:Option Addr) (n c c':Nat) (xs:List Slt) (w:World) (h1:Sl w 11 A n (cat Slt.enc xs)) (h2:Sl w 11 B n (cat Slt.enc xs)) (hl:n=xs.length) (hn:n≤100000):
 Calls Tryz.prog 67 #[.slice A n c,.slice B n c'] w fun e w'=>e=.returned (.bool true)∧Chg [] w w':=by
 have H1:=Vh h1
 have H2:=Vh h2
 have HL:=Vh hl
 clear h1 h2 hl
 go_enter Tryz.func67,Tryz.ntmps67
 try dsimp only [List.append]
 have tn:((n:Int) != (n:Int))=false:=by simp
 go_wp2
 go_loopw [5] (fun i wr=>∃k:Nat,k≤n∧i=.int .i64 k∧Chg [] w wr) (fun i _=>n-(intOf i).toNat)
 case atStart=>exact ⟨0,by omega,rfl,Chg.refl _ _⟩
 case round=>
  obtain ⟨k,hk,rfl,hc⟩:=hrel
  by_cases hlt:k<n
  ·obtain ⟨b,o,rfl⟩:=H1.out.addr (by omega)
   obtain ⟨b',o',rfl⟩:=H2.out.addr (by omega)
   obtain ⟨y,hy⟩:∃y,xs[k]? =some y:=⟨xs[k]'(by rw [←HL.out];exact hlt),List.getElem?_eq_getElem _⟩
   obtain ⟨cs,t,f,hb,a0,a1,a2,a3,a4⟩:=slt_all H1.out hc (by simp) hlt hy
   obtain ⟨cs',t',f',hb',b0,b1,b2,b3,b4⟩:=slt_all H2.out hc (by simp) hlt hy
   have g1:(k:Int)<(n:Int):=by omega
   have g0:(0:Int)≤(k:Int):=by omega
   have g2:(n:Int)≤100000:=by omega
   have t1:(y.st !=y.st)=false:=by simp
   have t2:(y.li !=y.li)=false:=by simp
   have t3:(y.us !=y.us)=false:=by simp
   have he:=fun W=>Ze y.l y.l y.h y.h W
   have te:(y.l==y.l)=true:=by simp
   have HC:=Vh hc
   clear hy hc
   go_wp2
   go_quiet (fail)
   go_wp2
   go_roundw
   case rel=>exact ⟨k+1,by omega,by go_num,HC.out.drewN _⟩
   case measure=>simp [intOf];omega
  ·have:k=n:=by omega
   subst this
   go_wp2
   go_ret
   exact ⟨rfl,hc⟩
def ASys (W w:World) (a b S N:Nat) (xs:List Slt) (u:Int):Prop:=Chg [] W w∧Arr w a b S N xs u∧W.heap.size≤a∧W.heap.size≤b
theorem ASys.keep {W w w':World} {a b S N:Nat} {xs:List Slt} {u:Int} (h:ASys W w a b S N xs u) (hc:Chg [] w w'):ASys W w' a b S N xs u:=
 ⟨h.1.trans hc,h.2.1.keep hc (by simp) (by simp),h.2.2⟩
theorem ASys.in2 {W w:World} {a b S N:Nat} {xs:List Slt} {u:Int} (h:ASys W w a b S N xs u):∀x∈[a,b],x∈([]:List Nat)∨W.heap.size≤x:=by
 intro x hx
 have:=h.2.2
 simp only [List.mem_cons,Vn,or_false] at hx
 rcases hx with rfl|rfl<;>omega
theorem ASys.new2 {W w:World} {a b S N:Nat} {xs:List Slt} {u:Int} (h:ASys W w a b S N xs u) {k:Nat} (hk:w.heap.size≤k):k∉[a,b]:=by
 have h1:=h.2.1.olda
 have h2:=h.2.1.oldb
 simp;omega
theorem ASys.good {W w:World} {a b S N:Nat} {xs:List Slt} {u:Int} (h:ASys W w a b S N xs u):Good S N xs:=h.2.1.2.2.2
def ASysTo (W w:World) (a b S N:Nat) (xs:List Slt) (u:Int) (v:Value) (e:Ending) (w':World):Prop:=e=.returned v∧ASys W w' a b S N xs u∧Chg [a,b] w w'
theorem ASys.to {W w:World} {a b S N:Nat} {xs xs':List Slt} {u u':Int} (h:ASys W w a b S N xs u) {v:Value} {f:FuncId} {args:Array Value} (hc:Calls Tryz.prog f args w (ArrTo w a b S N xs' u' v)):Calls Tryz.prog f args w (ASysTo W w a b S N xs' u' v):=
 hc.mono fun e w' ⟨he,hc,ha⟩=>⟨he,⟨h.1.trans' hc h.in2,ha,h.2.2⟩,hc⟩
section
variable {W w:World} {a b S N:Nat} {xs:List Slt} {u:Int} (h:ASys W w a b S N xs u)
include h
theorem sys_set (u0:0≤u) (u1:u≤1000000000) (li st:Int) (l:List Int) (hl8:l.length=8):Calls Tryz.prog 140 #[.pointer (some ⟨a,0,none⟩),.int .i64 li,.int .i64 st,.agg (vs l)] w (ASysTo W w a b S N (setXs S N xs u li st l hl8) (setU S N xs u li st) (.int .i64 (Qds S N xs li st))):=
 h.to (asetl_any a b S N xs u li st l hl8 w h.2.1 u0 u1)
theorem sys_touch (u0:0≤u) (u1:u≤1000000000) (li:Int):Calls Tryz.prog 132 #[.pointer (some ⟨a,0,none⟩),.int .i64 li] w (ASysTo W w a b S N (touchXs xs u li) (J8 xs u li) (.tuple #[])):=
 h.to (atouch_any a b S N xs u li w h.2.1 u0 u1)
theorem sys_drop (li:Int):Calls Tryz.prog 150 #[.pointer (some ⟨a,0,none⟩),.int .i64 li] w (ASysTo W w a b S N (dropXs xs li) u (.bool (Xt xs li))):=
 h.to (adrop_any a b S N xs u li w h.2.1)
end
theorem sys_new (S N:Nat) (W w:World) (hc:Chg [] W w) (h:YQ S N):Calls Tryz.prog 158 #[.int .i64 S,.int .i64 N] w fun e w'=>∃a b,e=.returned (.tuple #[.pointer (some ⟨a,0,none⟩),.int .i64 0])∧ASys W w' a b S N (List.replicate (S*N) sltZ) 0∧Chg [] w w':=
 (anew_ok S N w h).mono fun e w' ⟨a,b,he,h1,h2,h3,h4⟩=>⟨a,b,he,⟨hc.trans h3,h4,by have:=hc.size;omega,by have:=hc.size;omega⟩,h3⟩
end
end Go.Proofs.YtadeoflkppiflaaGreatDoor
