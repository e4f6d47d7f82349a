/- Texts of the walk, one behind the other: Onc Sba Sbb Coa Cob Coc Cod. No condition. -/
import Derived.Test.YtcgjofbkcgedfaaGreatDoorMPaa
import Derived.Test.YtcgjofbkcgedfaaGreatDoorMPab
import Derived.Test.YtcgjofbkcgedfaaGreatDoorMPal
import Derived.Test.YtcgjofbkcgedfaaGreatDoorMPam
import Derived.BigQuiet
import Derived.ChangeAlike
import Derived.Deep.Cut
import Derived.Deep.CutBlock
import Derived.Deep.CutRange
import Derived.Deep.DeepCutAuto
import Derived.Deep.QuietTactic
import Derived.Deep.RegionHeld3
import Derived.Deep.RegionLaw
import Derived.Deep.RegionWith
import Derived.Defers
import Derived.Laws.LoneSync
import Derived.Laws.NewBlocks
import Derived.Laws.Pointers
import Derived.RegionCalls
import Derived.RegionTactic
import Derived.Tactics
import Derived.Tactics2
import Derived.Test.YtcgjofbkcgedfaaGreatDoorChecked
import Derived.WalkKit
namespace Go.Proofs.YtcgjofbkcgedfaaGreatDoor
open Go.RowKit
set_option linter.unusedVariables false
set_option maxHeartbeats 1000000
section
set_option maxRecDepth 100000
structure Stc where
 u:Int
 d:Int
 m:Int
 s:Int
 i:Ins
 g:Bool
def Stc.enc (x:Stc):List Value:=.int .u64 x.u::.int .u32 x.d::.int .i32 x.m::.int .u32 x.s::(Ins.enc x.i++[.bool x.g])
theorem Stc.len (x:Stc):(Stc.enc x).length=10:=rfl
def stp (x:Int×Bool):Stc:=⟨x.1,stD x,0,0,stI x,stG x⟩
theorem splice_left {α:Type} (A ys vs:List α) (o:Nat):Zx (A++ys) (A.length+o) vs=A++Zx ys o vs:=by
 unfold Zx
 rw [List.take_append,List.take_of_length_le (by omega),Nat.add_sub_cancel_left,List.drop_append,List.drop_eq_nil_of_le (by omega),List.nil_append]
 rw [show A.length+o+vs.length-A.length=o+vs.length by omega]
 simp
section
variable {α:Type} {enc:α→List Value} {k:Nat}
theorem sq_put13 (hk:∀a,(enc a).length=k) {xs:List α} {n:Nat} {x:α} (y:α) (h:xs[n]? =some x) (r:List Value) (o:Nat) (vs:List Value) (ho:o+vs.length≤k) (hy:enc y=Zx (enc x) o vs):
 Zx (sq enc xs r).toList (n*k+o) vs=(sq enc (xs.set n y) r).toList:=by
 obtain ⟨hn,rfl⟩:=Vg h
 have e1:xs=xs.take n++xs[n]::xs.drop (n+1):=by rw [←List.drop_eq_getElem_cons hn,List.take_append_drop]
 have e2:xs.set n y=xs.take n++y::xs.drop (n+1):=List.set_eq_take_append_cons_drop.trans (if_pos hn)
 have e3:(cat enc (xs.take n)).length=n*k:=by rw [Q7 hk,List.length_take,Nat.min_eq_left (by omega)]
 rw [X7,X7,e2]
 conv=>lhs;rw [e1]
 rw [Y8,Y8,XY,XY,List.append_assoc,List.append_assoc,←e3,splice_left,List.append_assoc,Qaa _ _ _ _ (by rw [hk];exact ho),←hy,List.append_assoc]
theorem sq_putRow13 (hk:∀a,(enc a).length=k) {xs:List α} {n:Nat} {x:α} (y:α) (h:xs[n]? =some x) (r:List Value) (o:Nat) (vs:Array Value) (ho:o+vs.size≤k) (hy:enc y=Zx (enc x) o vs.toList) (t:TypeId) (f:Nat×Nat):
 JZ (some (.cells (sq enc xs r) t f)) (n*k+o) vs=some (.cells (sq enc (xs.set n y) r) t f):=by
 rw [Xx,sq_put13 hk y h r o vs.toList (by simpa using ho) hy,Array.toArray_toList]
theorem Qbu (hk:∀a,(enc a).length=k) {xs:List α} {n:Nat} {x:α} (y:α) (h:xs[n]? =some x) (r:List Value) (o:Nat) (v:Value) (ho:o<k) (hy:enc y=(enc x).set o v) (t:TypeId) (f:Nat×Nat):
 Qh1 (some (.cells (sq enc xs r) t f)) (n*k+o) v=some (.cells (sq enc (xs.set n y) r) t f):=by
 obtain ⟨hn,hx⟩:=Vg h
 have hm:=JP (k:=k) hn
 have hl:n*k+o<(sq enc xs r).toList.length:=by rw [Array.length_toList,Jw hk];omega
 have e:∀(l:List Value) (j:Nat),j<l.length→Zx l j [v]=l.set j v:=by
  intro l j hj
  rw [List.set_eq_take_append_cons_drop,if_pos hj]
  simp [Zx]
 have:=sq_put13 hk y h r o [v] (by simp;omega) (by rw [hy,e _ _ (by rw [hk];exact ho)])
 rw [e _ _ hl] at this
 rw [Qf]
 congr 2
 apply Array.toList_inj.1
 rw [Array.toList_setIfInBounds,this]
theorem sq_hasAt13 (hk:∀a,(enc a).length=k) {xs:List α} {n:Nat} (hn:n<xs.length) (r:List Value) (t:TypeId) (o m:Nat) (hm:o+m≤k):
 ZO (some (.cells (sq enc xs r) t (0,0))) (n*k+o) m=true:=by
 have h1:=JP (k:=k) hn
 rw [Qd,Jw hk]
 exact decide_eq_true (show _≤_ by omega)
end
def Sts (w:World) (b:Nat) (xs:List Stc):Prop:=w.heap[b]? =some (.cells (sq Stc.enc xs []) 192 (0,0))
section
variable {w:World} {b n:Nat} {xs:List Stc} {x:Stc} (h:Sts w b xs) (hx:xs[n]? =some x)
include h
theorem Sts.keep {w':World} {l:List Nat} (hc:Chg l w w') (hb:b∉l):Sts w' b xs:=hc.keep h hb
theorem Sts.fz (o:Nat):w.frozen? ⟨b,o,none⟩=false:=by rw [Qs,show w.heap[b]? =_ from h,Qa]
include hx
theorem Sts.cell (o:Nat) (ho:o<10):w.cell? ⟨b,n*10+o,none⟩=(Stc.enc x)[o]?:=by
 rw [QE,show w.heap[b]? =_ from h,Qb,JM Stc.len hx [] o ho]
theorem Sts.done:w.cell? ⟨b,n*10+1,none⟩=some (.int .u32 x.d):=h.cell hx 1 (by omega)
theorem Sts.lock:w.cell? ⟨b,n*10+2,none⟩=some (.int .i32 x.m):=h.cell hx 2 (by omega)
theorem Sts.setDone (v:Int):Sts (w.setCell ⟨b,n*10+1,none⟩ (.int .u32 v)) b (xs.set n {x with d:=v}):=by
 unfold Sts
 rw [heap_setCell,if_pos rfl,show w.heap[b]? =_ from h]
 exact Qbu Stc.len {x with d:=v} hx [] 1 _ (by omega) rfl _ _
theorem Sts.setLock (v:Int):Sts (w.setCell ⟨b,n*10+2,none⟩ (.int .i32 v)) b (xs.set n {x with m:=v}):=by
 unfold Sts
 rw [heap_setCell,if_pos rfl,show w.heap[b]? =_ from h]
 exact Qbu Stc.len {x with m:=v} hx [] 2 _ (by omega) rfl _ _
end
theorem Sts.drew {w:World} {b:Nat} {xs:List Stc} (h:Sts w b xs):Sts w.drew b xs:=h
theorem odisable (w:World):(callFunc 258 #[]).run Tryz.prog w=.ok (.value (.tuple #[])) w:=run_call_mark0 Tryz.func258 (by kernel_rfl) (by kernel_rfl) (by kernel_rfl) .disable (by kernel_rfl) w
theorem oenable (w:World):(callFunc 260 #[]).run Tryz.prog w=.ok (.value (.tuple #[])) w:=run_call_mark0 Tryz.func260 (by kernel_rfl) (by kernel_rfl) (by kernel_rfl) .enable (by kernel_rfl) w
theorem oacquire (a:Addr) (w:World):(callFunc 261 #[.pointer (some a)]).run Tryz.prog w=.ok (.value (.tuple #[])) w:=run_call_marked Tryz.func261 (by kernel_rfl) (by kernel_rfl) (by kernel_rfl) .acquire (by kernel_rfl) a w
theorem oreleaseMerge (a:Addr) (w:World):(callFunc 263 #[.pointer (some a)]).run Tryz.prog w=.ok (.value (.tuple #[])) w:=run_call_marked Tryz.func263 (by kernel_rfl) (by kernel_rfl) (by kernel_rfl) .releaseMerge (by kernel_rfl) a w
theorem ostore (a:Addr) (x:Value) (u:FrameMode) (w:World) (hc:w.cell? a=some x) (hz:w.frozen? a=false):
 CallsD Tryz.prog 247 #[.pointer (some a),.bool true] u w fun e u' w'=>u'=u∧(e=.returned (.tuple #[])∧w'=w.drew.setCell a (.int .u32 1)):=by
 have hc':w.drew.cell? a=some x:=by go_simp
 have hz':w.drew.frozen? a=false:=by go_simp
 have hst:=run_call_store (P:=Tryz.prog) Tryz.func254 (by kernel_rfl) (by kernel_rfl) (by kernel_rfl) (by kernel_rfl) (k:=.u32) (y:=1) hc' hz'
 go_enter_d Tryz.func247,Tryz.ntmps247
 go_wp2
 go_region_calls
 all_goals (go_end0;exact ⟨rfl,rfl⟩)
theorem ounlock1 (a:Addr) (w:World) (hc:w.cell? a=some (.int .i32 1)) (hz:w.frozen? a=false):
 Calls Tryz.prog 253 #[.pointer (some a)] w fun e w'=>e=.returned (.tuple #[])∧w'=w.setCell a (.int .i32 0):=by
 have hd:=odisable
 have he:=oenable
 have hr:=oreleaseMerge
 have hadd:=run_call_add (P:=Tryz.prog) Tryz.func264 (by kernel_rfl) (by kernel_rfl) (by kernel_rfl) .i32 (by kernel_rfl) (y:= -1) (s:=0) hc hz (by simp [go_sem];rfl)
 have hcv:=run_convert_to_unsafe (P:=Tryz.prog) (src:=335) (dst:=339) Tryz.underlying335 Tryz.underlying339 (by kernel_rfl) hc
 go_enter Tryz.func253,Tryz.ntmps253
 go_wp2
 go_end0
 go_wp2
theorem ounlock (a:Addr) (u:FrameMode) (w:World) (hc:w.cell? a=some (.int .i32 1)) (hz:w.frozen? a=false):
 CallsD Tryz.prog 246 #[.pointer (some a)] u w fun e u' w'=>u'=u∧(e=.returned (.tuple #[])∧w'=w.setCell a (.int .i32 0)):=by
 have h1:=ounlock1 a w hc hz
 have H1:=Vh h1
 clear h1 hc hz
 go_enter_d Tryz.func246,Tryz.ntmps246
 go_wp2_with (go_at_call 253;refine H1.out.mono ?_;rintro e w' ⟨rfl,rfl⟩)
 go_end0
 exact ⟨rfl,rfl⟩
theorem olock1 (a:Addr) (w:World) (hc:w.cell? a=some (.int .i32 0)) (hz:w.frozen? a=false):
 Calls Tryz.prog 252 #[.pointer (some a)] w fun e w'=>e=.returned (.tuple #[])∧w'=w.setCell a (.int .i32 1):=by
 have hd:=odisable
 have he:=oenable
 have ha:=oacquire
 have hcas:=run_call_cas_hit (P:=Tryz.prog) Tryz.func259 (by kernel_rfl) (by kernel_rfl) (by kernel_rfl) .i32 (by kernel_rfl) (y:=1) hc hz
 have hc':(w.setCell a (.int .i32 1)).cell? a=some (.int .i32 1):=World.cell?_setCell_same w a _ hc
 have hcv:=run_convert_to_unsafe (P:=Tryz.prog) (src:=335) (dst:=339) Tryz.underlying335 Tryz.underlying339 (by kernel_rfl) hc'
 go_enter Tryz.func252,Tryz.ntmps252
 go_wp2
 first |go_end0|(simp only [Exit.inBlock,Exit.then];refine bodyPost_ret (results_none rfl _ _ _) rfl ?_)|refine bodyPost_ret (results_none rfl _ _ _) rfl ?_
 go_wp2
theorem olock (a:Addr) (w:World) (hc:w.cell? a=some (.int .i32 0)) (hz:w.frozen? a=false):
 Calls Tryz.prog 245 #[.pointer (some a)] w fun e w'=>e=.returned (.tuple #[])∧w'=w.setCell a (.int .i32 1):=by
 have h1:=olock1 a w hc hz
 have H1:=Vh h1
 clear h1 hc hz
 go_enter Tryz.func245,Tryz.ntmps245
 go_wp2_with (go_at_call 252;refine H1.out.mono ?_;rintro e w' ⟨rfl,rfl⟩)
 go_end0
 exact ⟨rfl,rfl⟩
theorem oload (a:Addr) (d:Int) (w:World) (hc:w.cell? a=some (.int .u32 d)):
 Calls Tryz.prog 230 #[.pointer (some a)] w fun e w'=>e=.returned (.bool (d !=0))∧w=w':=by
 have hl:=run_call_load (P:=Tryz.prog) Tryz.func244 (by kernel_rfl) (by kernel_rfl) (by kernel_rfl) .u32 (by kernel_rfl) hc
 go_enter Tryz.func230,Tryz.ntmps230
 go_wp2
 go_ret
 exact ⟨rfl,rfl⟩
attribute [local go_sem ↓] QE Qs Qk Qh heap_alloc Ql heap_setCell Qc Xg ZP Xh XW XV XU Xj
attribute [local go_sem] Qb Qa Qd Qi Qe Qg Qf QB Qw QK QA Qr QD QW QJ Qq QC Qp Qj Qo Qn Xf QG ZQ Xi ZR XT Qco Qcn Qcm Qcl Qck
attribute [local simp ↓] Qk Qh heap_alloc Ql heap_setCell Qc
attribute [local simp] Qb Qa Qd Qi Qe Qg Qf Qr Qj Qo Qn QG QD
theorem odecode {w:World} {b n:Nat} {xs:List Stc} {x:Stc} (h:Sts w b xs) (hx:xs[n]? =some x) (h0:0≤x.u) (h64:x.u<18446744073709551616):
 Calls Tryz.prog 190 #[.pointer (some ⟨b,n*10,none⟩)] w fun e w'=>e=.returned (.tuple #[])∧Chg [b] w w'∧Sts w' b (xs.set n {x with i:=decI x.u,g:=decB x.u}):=by
 have hn:=(Vg hx).1
 have hc0:(sq Stc.enc xs [])[n*10]? =some (.int .u64 x.u):=JM Stc.len hx [] 0 (by omega)
 have hr:ZO (some (.cells (sq Stc.enc xs []) 192 (0,0))) (n*10+4) 5=true:=sq_hasAt13 Stc.len hn _ _ _ _ (by omega)
 have hp:=sq_putRow13 Stc.len {x with i:=decI x.u} hx [] 4 (insc (decI x.u)) (by rw [QG];omega) rfl 192 (0,0)
 have hx2:(xs.set n {x with i:=decI x.u})[n]? =some {x with i:=decI x.u}:=by rw [List.getElem?_set_self hn]
 have hc9:(sq Stc.enc (xs.set n {x with i:=decI x.u}) [])[n*10+9]? =some (.bool x.g):=JM Stc.len hx2 [] 9 (by omega)
 have hs:=Qbu Stc.len {x with i:=decI x.u,g:=decB x.u} hx2 [] 9 (.bool (decB x.u)) (by omega) rfl 192 (0,0)
 rw [List.set_set] at hs
 have HS:=Vh hs
 have HD:=Vh (fun w=>idecode x.u h0 h64 w)
 have hg:((if decB x.u=true then (0:Int) else 11)==0)=decB x.u:=by cases decB x.u<;>rfl
 generalize (if decB x.u=true then (0:Int) else 11)=er at HD hg
 generalize decI x.u=ii at *
 generalize decB x.u=gg at *
 generalize xs.set n {x with i:=ii}=xs2 at hp hc9 HS
 generalize hxg:x.g=xg at hc9
 generalize x.u=xu at *
 have hb:w.heap[b]? =some (.cells (sq Stc.enc xs []) 192 (0,0)):=h
 have ob:Old w b:=old h
 clear h hx hn hx2 hs hxg h0 h64
 go_enter Tryz.func190,Tryz.ntmps190
 go_wp2_with fail
 refine (HD.out w).mono ?_
 rintro e w1 ⟨rfl,c1⟩
 have hb1:=c1.keep hb (by simp)
 have HC1:=Vh c1
 have ob1:=ob.chg c1
 clear c1 hb hc0
 go_wp2_with fail
 go_end0
 refine ⟨rfl,(((HC1.out.mono (l':=[b]) (by simp)).alloc _).putRow b _ _ (.inl (by simp))).setCell b _ _ (.inl (by simp)),?_⟩
 unfold Sts
 rw [heap_setCell,if_pos rfl,Qc _ _ _ _ _ (by simp [hb1,hr,QG]),if_pos rfl]
 simp only [heap_alloc,hb1,Option.some_or,hp]
 exact HS.out
def readS (x:Stc):Stc:={x with d:=1,i:=decI x.u,g:=decB x.u}
set_option maxHeartbeats 2000000 in
theorem oslow {w:World} {b n:Nat} {xs:List Stc} {x:Stc} (h:Sts w b xs) (hx:xs[n]? =some x) (hd:x.d=0) (hm:x.m=0) (h0:0≤x.u) (h64:x.u<18446744073709551616):
 Calls Tryz.prog 231 #[.pointer (some ⟨b,n*10+1,none⟩),.func (.func 190) #[.pointer (some ⟨b,n*10,none⟩)] #[]] w fun e w'=>e=.returned (.tuple #[])∧Chg [b] w w'∧Sts w' b (xs.set n (readS x)):=by
 have hn:=(Vg hx).1
 have L1:=olock ⟨b,n*10+2,none⟩ w (by rw [h.lock hx,hm]) (h.fz 2 |> fun _=>h.fz (n*10+2))
 have s1:=h.setLock hx 1
 have hx1:(xs.set n {x with m:=1})[n]? =some {x with m:=1}:=List.getElem?_set_self hn
 have c1:Chg [b] w (w.setCell ⟨b,n*10+2,none⟩ (.int .i32 1)):=(Chg.refl [b] w).setCell b _ _ (.inl (by simp))
 have HL:=Vh L1
 have H1:=Vh s1
 have HX1:=Vh hx1
 have HC1:=Vh c1
 have L2:=Vh (oload ⟨b,n*10+1,none⟩ 0 (w.setCell ⟨b,n*10+2,none⟩ (.int .i32 1)) (by rw [s1.done hx1];show some (Value.int .u32 x.d)=_;rw [hd]))
 have HD:=Vh (odecode s1 hx1 h0 h64)
 have HN:=Vh hn
 have H:=Vh h
 have HX:=Vh hx
 have HM:=Vh hm
 have HDD:=Vh hd
 clear h hx hd hm h0 h64 hn L1 s1 hx1 c1
 generalize w.setCell ⟨b,n*10+2,none⟩ (.int .i32 1)=w1 at *
 go_enter_defers Tryz.func231,Tryz.ntmps231
 go_wp2_with (first |(go_at_call 245;refine HL.out.mono ?_;rintro e w' ⟨rfl,rfl⟩)|(go_at_call 230;refine L2.out.mono ?_;rintro e w' ⟨rfl,rfl⟩)|(go_at_call 190;refine HD.out.mono ?_;rintro e w2 ⟨rfl,c2,s2⟩;have HS2:=Vh s2;have HC2:=Vh c2;clear s2 c2))
 have hx2:((xs.set n {x with m:=1}).set n {x with m:=1,i:=decI x.u,g:=decB x.u})[n]? =some {x with m:=1,i:=decI x.u,g:=decB x.u}:=List.getElem?_set_self (by rw [List.length_set];exact HN.out)
 have s2:=HS2.out
 rw [List.set_set] at s2 hx2
 have s3:=s2.drew.setDone hx2 1
 have hx3:((xs.set n {x with m:=1,i:=decI x.u,g:=decB x.u}).set n {x with m:=1,i:=decI x.u,g:=decB x.u,d:=1})[n]? =some {x with m:=1,i:=decI x.u,g:=decB x.u,d:=1}:=List.getElem?_set_self (by rw [List.length_set];exact HN.out)
 have s4:=s3.setLock hx3 0
 have o1:=Vh (fun u=>ostore ⟨b,n*10+1,none⟩ _ u w2 (s2.done hx2) (s2.fz _))
 have o2:=Vh (fun u=>ounlock ⟨b,n*10+2,none⟩ u (w2.drew.setCell ⟨b,n*10+1,none⟩ (.int .u32 1)) (s3.lock hx3) (s3.fz _))
 have S4:=Vh s4
 clear s2 hx2 s3 hx3 s4
 refine leaves_cons (f:=247) (args:=#[.pointer (some ⟨b,n*10+1,none⟩),.bool true]) (by simp) (by simp [go_sem]) ?_
 refine (o1.out .returning).mono ?_
 rintro e u' w'' ⟨rfl,rfl,rfl⟩
 refine leaves_cons (f:=246) (args:=#[.pointer (some ⟨b,n*10+2,none⟩)]) (by simp [settle]) (by simp [go_sem]) ?_
 refine (o2.out _).mono ?_
 rintro e u' w'' ⟨rfl,rfl,rfl⟩
 have hc:=(((HC1.out.trans HC2.out).drew).setCell b (n*10+1) (.int .u32 1) (.inl (by simp))).setCell b (n*10+2) (.int .i32 0) (.inl (by simp))
 have hs:Sts ((w2.drew.setCell ⟨b,n*10+1,none⟩ (.int .u32 1)).setCell ⟨b,n*10+2,none⟩ (.int .i32 0)) b (xs.set n (readS x)):=by
  have:=S4.out
  rw [List.set_set,List.set_set] at this
  rw [show readS x={x with m:=0,i:=decI x.u,g:=decB x.u,d:=1} by unfold readS;rw [←HM.out]]
  exact this
 simp [Leaves,settle,results,Tryz.results231]
 exact ⟨hc,hs⟩
theorem odo {w:World} {b n:Nat} {xs:List Stc} {x y:Stc} (h:Sts w b xs) (hx:xs[n]? =some x) (hy:(x.d=0∧x.m=0∧y=readS x)∨(x.d=1∧y=x)) (h0:0≤x.u) (h64:x.u<18446744073709551616):
 Calls Tryz.prog 189 #[.pointer (some ⟨b,n*10+1,none⟩),.func (.func 190) #[.pointer (some ⟨b,n*10,none⟩)] #[]] w fun e w'=>e=.returned (.tuple #[])∧Chg [b] w w'∧Sts w' b (xs.set n y):=by
 rcases hy with ⟨hd,hm,rfl⟩|⟨hd,rfl⟩
 ·have L:=Vh (oload ⟨b,n*10+1,none⟩ 0 w (by rw [h.done hx,hd]))
  have S:=Vh (oslow h hx hd hm h0 h64)
  clear h hx hd hm h0 h64
  go_enter Tryz.func189,Tryz.ntmps189
  go_wp2_with (first |(go_at_call 230;refine L.out.mono ?_;rintro e w' ⟨rfl,rfl⟩)|(go_at_call 231;refine S.out.mono ?_;rintro e w2 ⟨rfl,c2,s2⟩;have HS2:=Vh s2;have HC2:=Vh c2;clear s2 c2))
  go_end0
  exact ⟨rfl,HC2.out,HS2.out⟩
 ·have L:=Vh (oload ⟨b,n*10+1,none⟩ 1 w (by rw [h.done hx,hd]))
  have e:xs.set n y=xs:=by
   obtain ⟨h1,h2⟩:=Vg hx
   rw [←h2];exact List.set_getElem_self h1
  rw [e]
  have HS:=Vh h
  clear h hx hd e
  go_enter Tryz.func189,Tryz.ntmps189
  go_wp2_with (go_at_call 230;refine L.out.mono ?_;rintro e w' ⟨rfl,rfl⟩)
  go_end0
  exact ⟨rfl,Chg.refl _ _,HS.out⟩
theorem oins {w:World} {b n:Nat} {pr:List (Int×Bool)} {u:Int} {r:Bool} (h:Sts w b (pr.map stp)) (hx:pr[n]? =some (u,r)) (h0:0≤u) (h64:u<18446744073709551616):
 Calls Tryz.prog 143 #[.pointer (some ⟨b,n*10,none⟩)] w fun e w'=>e=.returned (.tuple #[.agg (insc (decI u)),.bool (decB u)])∧Chg [b] w w'∧Sts w' b ((pr.set n (u,true)).map stp):=by
 have hn:=(Vg hx).1
 have hx1:(pr.map stp)[n]? =some (stp (u,r)):=by rw [List.getElem?_map,hx];rfl
 have e1:(pr.map stp).set n (stp (u,true))=(pr.set n (u,true)).map stp:=by rw [List.map_set]
 have c1:Chg [] w (w.alloc (.cells (insc insZ) 68)):=(Chg.refl [] w).alloc _
 have D:=odo (h.keep c1 (by simp)) hx1 (y:=stp (u,true)) (by
  cases r
  ·exact .inl ⟨rfl,rfl,rfl⟩
  ·exact .inr ⟨rfl,rfl⟩) h0 h64
 rw [e1] at D
 have HD:=Vh D
 have hx2:((pr.set n (u,true)).map stp)[n]? =some (stp (u,true)):=by rw [List.getElem?_map,List.getElem?_set_self hn];rfl
 have hr:Qbq (some (.cells (sq Stc.enc ((pr.set n (u,true)).map stp) []) 192 (0,0))) (n*10+4) 5=true:=Qe3 Stc.len (by rw [List.length_map,List.length_set];exact hn) _ _ _ _ _ (by omega)
 have hp:XM (some (.cells (sq Stc.enc ((pr.set n (u,true)).map stp) []) 192 (0,0))) (n*10+4) 5=insc (decI u):=Qci Stc.len hx2 _ _ _ 4 5 (by omega)
 have hg:(sq Stc.enc ((pr.set n (u,true)).map stp) [])[n*10+9]? =some (.bool (decB u)):=JM Stc.len hx2 [] 9 (by omega)
 have HC1:=Vh c1
 have oz:(w.alloc (.cells (insc insZ) 68)).heap[w.heap.size]? =some (.cells (insc insZ) 68 (0,0)):=by simp
 have hb:Old w b:=old h
 have hpb:=Vh (show w.heap.size≠b from by have:=hb.lt;omega)
 clear h hx hx1 e1 c1 D hx2
 generalize (pr.set n (u,true)).map stp=ys at *
 generalize decI u=ii at *
 generalize decB u=gg at *
 go_enter Tryz.func143,Tryz.ntmps143
 go_wp2_with fail
 generalize hw1:w.alloc (.cells (insc insZ) 68)=w1 at HD HC1 oz ⊢
 generalize hz:w.heap.size=p at oz hpb ⊢
 refine HD.out.mono ?_
 rintro e w2 ⟨rfl,c2,s2⟩
 have hb2:w2.heap[b]? =some (.cells (sq Stc.enc ys []) 192 (0,0)):=s2
 have hz2:=c2.keep oz (by simpa using hpb.out)
 have HC2:=Vh ((HC1.out.mono (l':=[b]) (by simp)).trans c2)
 have HS2:=Vh s2
 have ob:=old hb2
 have op:=old hz2
 have n1:¬p=b:=hpb.out
 have n2:¬b=p:=fun e=>hpb.out e.symm
 clear c2 s2 oz hw1 HD hb
 go_wp2_with fail
 go_region
 all_goals
  go_wp2
  refine bodyPost_ret (v:=.tuple #[.agg (insc ii),.bool gg]) (J1 (by rfl) _ _ p ii (0,0) (by rfl) ?_ _ (by rfl)) (by rfl) ⟨rfl,?_,?_⟩
  ·rw [Qc _ _ _ _ _ (by simp [hz2,ZO,Fit,QG]),if_pos rfl]
   show JZ (w2.heap[p]?) 0 (insc ii)=_
   rw [hz2]
   exact Qg _ _ _ _ (by rw [QG,QG])
  ·exact HC2.out.drew.putRow p 0 _ (.inr (by omega))
  ·unfold Sts
   rw [Qc _ _ _ _ _ (by simp [hz2,ZO,Fit,QG]),if_neg n2]
   exact HS2.out
end
section
theorem Yc:Wide Tryz.prog 177 5:=⟨⟨_,Tryz.underlying177,by rfl⟩,by kernel_rfl⟩
theorem Yq (x:Value):Instr.loadAt 177 x=Qda 177 5 x:=rfl
theorem Xu (x y:Value):Instr.storeAt 177 x y=Qag 177 5 x y:=rfl
theorem loadBuf (x:Value):Instr.loadAt 180 x=Qda 180 83 x:=rfl
theorem storeBuf (x y:Value):Instr.storeAt 180 x y=Qag 180 83 x y:=rfl
theorem zbuf (w:World):(zeroValue 180).run Tryz.prog w=.ok (.agg (bfc 0 ringZ 0 0)) w:=by kernel_rfl
theorem Qio (room:Int):(bfc 0 ringZ 0 0).setIfInBounds 0 (.int .i64 room)=bfc room ringZ 0 0:=by simp [bfc]
theorem bfc_ne (room:Int) (r:Ring) (f c:Nat):(bfc room r f c=#[])=False:=by
 simp only [eq_iff_iff,iff_false]
 intro h
 have:=congrArg Array.size h
 rw [Qc7] at this
 cases this
theorem quiet_same12 {P:Program} {f:FuncId} {args:Array Value} {w:World} {n:Nat} {v:Value} (h:Calls P f args (w.drewN n) fun e w'=>e=.returned v∧w.drewN n=w'):Calls P f args (w.drewN n) fun e w''=>e=.returned v∧∃m,w''=w.drewN m:=
 h.mono fun _ _ ⟨he,hm⟩=>⟨he,n,hm.symm⟩
attribute [local go_sem ↓] Qv QF Qy QO QE Qs Yq Xu loadBuf storeBuf Qk Qh heap_alloc Ql heap_setCell Qc Yi Yh Yd Ye Yf bfc_room bfc_first bfc_count
attribute [local go_sem] Qb Qa Qd Qi Qe Qg Qf Yc QB Qw QN QL QM Q5 QK QA Qr QD fit_pl QW QJ Qq QC Qp Qj Qo Qn Q8 Xv Xw JT Yg ZZ ZY ZX ZW Yn Ym Yj Yk Yl Qc7 Qa5 J5 Qgk Qft Qex Qfs
attribute [local simp ↓] Qk Qh heap_alloc Ql heap_setCell Qc
attribute [local simp] Qb Qa Qd Qi Qe Qg Qf Qr fit_pl Qj Qo Qn Q8 Qc7 Qa5 J5 Qgk Qex Qfs
attribute [local go_sem ↓] zbuf
attribute [local go_sem] Qio bfc_ne
theorem JS (n a b:Int) (w:World):Calls Tryz.prog 86 #[.int .i64 n,.int .i64 a,.int .i64 b] w fun e w'=>e=.returned (.bool (Qbs n a b))∧w=w':=by
 unfold Qbs
 cases h1:decide (a≤n)
 ·go_enter Tryz.func86,Tryz.ntmps86
  go_wp2
  go_ret
  exact ⟨rfl,rfl⟩
 ·go_enter Tryz.func86,Tryz.ntmps86
  go_wp2
  go_ret
  exact ⟨rfl,rfl⟩
theorem snew_ok (room:Int) (w:World) (h:Qbs room 1 16=true):Calls Tryz.prog 55 #[.int .i64 room] w fun e w'=>e=.returned (.tuple #[.pointer (some ⟨w.heap.size,0,none⟩),.int .i64 0])∧w'=w.alloc (.cells (bfc room ringZ 0 0) 180):=by
 go_enter Tryz.func55,Tryz.ntmps55
 go_wp2_with (go_at_call 86;refine (JS _ _ _ _).mono ?_;rintro e w' ⟨rfl,rfl⟩)
 go_ret2
 exact ⟨rfl,rfl⟩
theorem slen_nil (w:World):Calls Tryz.prog 135 #[.pointer none] w fun e w'=>e=.returned (.int .i64 0)∧w=w':=by
 go_enter Tryz.func135,Tryz.ntmps135
 go_wp2
 go_ret
 exact ⟨rfl,rfl⟩
theorem slen_at {w:World} {q:Nat} {room:Int} {r:Ring} {f c:Nat} (hq:w.heap[q]? =some (.cells (bfc room r f c) 180 (0,0))):Calls Tryz.prog 135 #[.pointer (some ⟨q,0,none⟩)] w fun e w'=>e=.returned (.int .i64 c)∧w=w':=by
 go_enter Tryz.func135,Tryz.ntmps135
 go_wp2
 go_ret
 exact ⟨rfl,rfl⟩
theorem splace_at {w:World} {q:Nat} {room:Int} {r:Ring} {f c n:Nat} (hf:f<16) (hn:n≤1000) (hq:w.heap[q]? =some (.cells (bfc room r f c) 180 (0,0))):Calls Tryz.prog 187 #[.pointer (some ⟨q,0,none⟩),.int .i64 n] w fun e w'=>e=.returned (.int .i64 (pl f n))∧w=w':=by
 have g1:(f:Int)<16:=by omega
 have g2:(n:Int)≤1000:=by omega
 go_enter Tryz.func187,Tryz.ntmps187
 go_wp2
 go_ret
 exact ⟨by rw [show ((f:Int)+n) % 16=((pl f n:Nat):Int) by unfold pl;omega];rfl,rfl⟩
theorem sat_at {w:World} {q:Nat} {room:Int} {r:Ring} {f c n:Nat} (hf:f<16) (hn:n≤1000) (hq:w.heap[q]? =some (.cells (bfc room r f c) 180 (0,0))):Calls Tryz.prog 136 #[.pointer (some ⟨q,0,none⟩),.int .i64 n] w fun e w'=>e=.returned (.pointer (some ⟨q,1+pl f n*5,none⟩))∧∃m,w'=w.drewN m:=by
 have HF:=Vh hf
 have HN:=Vh hn
 have HQ:=Vh hq
 have g1:((pl f n:Nat):Int)<16:=by have:=pl_lt f n;omega
 have g0:(0:Int)≤((pl f n:Nat):Int):=by omega
 clear hf hn
 go_enter Tryz.func136,Tryz.ntmps136
 go_wp2_with fail
 go_quiet (first |(go_at_call 187;exact quiet_same12 (splace_at HF.out HN.out HQ.out)))
 go_wp2
 go_ret
 exact ⟨rfl,_,rfl⟩
theorem sat_c {w:World} {q:Nat} {room:Int} {r:Ring} {f c n:Nat} (hf:f<16) (hn:n≤1000) (hq:w.heap[q]? =some (.cells (bfc room r f c) 180 (0,0))):Calls Tryz.prog 136 #[.pointer (some ⟨q,0,none⟩),.int .i64 n] w fun e w'=>e=.returned (.pointer (some ⟨q,1+pl f n*5,none⟩))∧Chg [] w w':=
 (sat_at hf hn hq).mono fun _ _ ⟨he,m,hm⟩=>⟨he,hm▸(Chg.refl [] w).drewN m⟩
theorem Qhw (e:Se) (w:World):Calls Tryz.prog 234 #[.agg (sec e)] w fun v w'=>v=.returned (.bool (Qb1 e))∧Chg [] w w':=by
 cases h1:Qbs e.li 0 63
 ·rw [show Qb1 e=false by simp [Qb1,h1]]
  go_enter Tryz.func234,Tryz.ntmps234
  go_wp2_with (go_at_call 86;refine (JS _ _ _ _).mono ?_;rintro e w' ⟨rfl,rfl⟩)
  go_ret
  exact ⟨rfl,(Chg.refl _ _).alloc _⟩
 cases h2:e.sn
 case true=>
  rw [show Qb1 e=false by simp [Qb1,h2]]
  go_enter Tryz.func234,Tryz.ntmps234
  go_wp2_with (go_at_call 86;refine (JS _ _ _ _).mono ?_;rintro e w' ⟨rfl,rfl⟩)
  go_ret
  exact ⟨rfl,(Chg.refl _ _).alloc _⟩
 by_cases k9:e.kd=9
 ·rw [show Qb1 e=Qbs e.wo 0 7 by simp [Qb1,h1,h2,k9]]
  have t9:(e.kd==9)=true:=by simp [k9]
  clear k9
  go_enter Tryz.func234,Tryz.ntmps234
  go_wp2_with (go_at_call 86;refine (JS _ _ _ _).mono ?_;rintro e w' ⟨rfl,rfl⟩)
  go_ret
  exact ⟨rfl,(Chg.refl _ _).alloc _⟩
 have t9:(e.kd==9)=false:=by simpa using k9
 by_cases k3:e.kd=12∨e.kd=13∨e.kd=14
 ·rw [show Qb1 e=(e.wo==0&&e.va==0) by
   rcases k3 with k|k|k<;>simp [Qb1,h1,h2,k]]
  have h3:(e.kd==12)=true∨(e.kd==12)=false∧(e.kd==13)=true∨(e.kd==12)=false∧(e.kd==13)=false∧(e.kd==14)=true:=by
   rcases k3 with k|k|k<;>simp [k]
  clear k3 k9
  rcases h3 with t|⟨t,u⟩|⟨t,u,v⟩
  all_goals
   cases h4:(e.wo==0)
   ·go_enter Tryz.func234,Tryz.ntmps234
    go_wp2_with (go_at_call 86;refine (JS _ _ _ _).mono ?_;rintro e w' ⟨rfl,rfl⟩)
    go_ret
    exact ⟨rfl,(Chg.refl _ _).alloc _⟩
   ·go_enter Tryz.func234,Tryz.ntmps234
    go_wp2_with (go_at_call 86;refine (JS _ _ _ _).mono ?_;rintro e w' ⟨rfl,rfl⟩)
    go_ret
    exact ⟨rfl,(Chg.refl _ _).alloc _⟩
 have ⟨t12,t13,t14⟩:(e.kd==12)=false∧(e.kd==13)=false∧(e.kd==14)=false:=by simpa using k3
 rw [show Qb1 e=false by simp [Qb1,t9,t12,t13,t14]]
 clear k3 k9
 go_enter Tryz.func234,Tryz.ntmps234
 go_wp2_with (go_at_call 86;refine (JS _ _ _ _).mono ?_;rintro e w' ⟨rfl,rfl⟩)
 go_ret
 exact ⟨rfl,(Chg.refl _ _).alloc _⟩
theorem Qak {fn:Func} {p t:Tmp} (h:fn.results=#[.cell p 177,.tmp t]) (tmps:Array Value) (w:World) (b:Nat) (s:Se) (fr:Nat×Nat)
 (hp:tmps.getD p undef=.pointer (some ⟨b,0,none⟩)) (hb:w.heap[b]? =some (.cells (sec s) 177 fr)) (x:Value) (hx:tmps.getD t undef=x):
 (results fn tmps).run Tryz.prog w=.ok (.tuple #[.agg (sec s),x]) w:=by
 subst hx
 have hp':tmps[p]?.getD undef=.pointer (some ⟨b,0,none⟩):=by simpa using hp
 have:=run_loadVar_row (P:=Tryz.prog) w b 177 177 (sec s) fr _ hb Tryz.underlying177 rfl (by rw [Q8];kernel_rfl)
 simp [results,h,hp',asAddr,this]
def Buf (w:World) (q room:Nat) (es:List Se):Prop:=
 ∃(r:Ring) (f:Nat),w.heap[q]? =some (.cells (bfc room r f es.length) 180 (0,0))∧f<16∧(∀n e,es[n]? =some e→r.get (pl f n)=e)∧es.length≤room∧1≤room∧room≤16
theorem Buf.keep {w w':World} {q room:Nat} {es:List Se} {l:List Nat} (h:Buf w q room es) (hc:Chg l w w') (hq:q∉l):Buf w' q room es:=by
 obtain ⟨r,f,h1,h2⟩:=h
 exact ⟨r,f,hc.keep h1 hq,h2⟩
theorem Buf.oldq {w:World} {q room:Nat} {es:List Se} (h:Buf w q room es):Old w q:=by
 obtain ⟨r,f,h1,h2⟩:=h
 exact old h1
theorem Buf.le {w:World} {q room:Nat} {es:List Se} (h:Buf w q room es):es.length≤room∧1≤room∧room≤16:=by
 obtain ⟨r,f,_,_,_,h2⟩:=h
 exact h2
theorem snew_buf (room:Nat) (w:World) (h1:1≤room) (h2:room≤16):Calls Tryz.prog 55 #[.int .i64 room] w fun e w'=>∃q,e=.returned (.tuple #[.pointer (some ⟨q,0,none⟩),.int .i64 0])∧w.heap.size≤q∧Chg [] w w'∧Buf w' q room []:=
 (snew_ok room w (by simp [Qbs];omega)).mono fun _ _ ⟨he,hw⟩=>by
  subst hw
  exact ⟨w.heap.size,he,Nat.le_refl _,(Chg.refl _ _).alloc _,ringZ,0,by simp,by omega,by simp,by simp,h1,h2⟩
theorem Qhv {w:World} {q room:Nat} {es:List Se} (h:Buf w q room es):Calls Tryz.prog 135 #[.pointer (some ⟨q,0,none⟩)] w fun e w'=>e=.returned (.int .i64 es.length)∧w=w':=by
 obtain ⟨r,f,h1,_⟩:=h
 exact slen_at h1
def BufTo (w:World) (q room:Nat) (es:List Se) (v:Value) (e:Ending) (w':World):Prop:=e=.returned v∧Chg [q] w w'∧Buf w' q room es
theorem ring_push {r:Ring} {f:Nat} {es:List Se} {x:Se} (h:∀n e,es[n]? =some e→r.get (pl f n)=e) (hl:es.length<16):∀n e,(es++[x])[n]? =some e→(r.put (pl f es.length) x).get (pl f n)=e:=by
 intro n e hn
 rcases Nat.lt_trichotomy n es.length with h1|h1|h1
 ·rw [List.getElem?_append_left h1] at hn
  rw [Ring.put_other _ (Ne.symm (pl_ne h1 (by omega)))]
  exact h n e hn
 ·subst h1
  simp at hn
  rw [Ring.put_same _ (pl_lt _ _),hn]
 ·rw [List.getElem?_eq_none (by simp;omega)] at hn
  cases hn
theorem spush_ok {w:World} {q room:Nat} {es:List Se} (x:Se) (hb:Buf w q room es):Calls Tryz.prog 203 #[.pointer (some ⟨q,0,none⟩),.agg (sec x)] w (BufTo w q room (sbE room es x) (.int .i64 (sbV room es x))):=by
 have HB:=Vh hb
 have oq:=hb.oldq
 clear hb
 have hx:(w.alloc (.cells (sec x) 177)).heap[w.heap.size]? =some (.cells (sec x) 177 (0,0)):=by simp
 have HC:=Vh ((Chg.refl [] w).alloc (.cells (sec x) 177))
 have ON:=Vh (show w.heap.size≠q from by have:=oq.lt;omega)
 cases hg:Qb1 x
 ·rw [show sbE room es x=es by simp [sbE,hg],show sbV room es x=11 by simp [sbV,hg]]
  go_enter Tryz.func203,Tryz.ntmps203
  go_wp2_with fail
  refine (Qhw x _).mono ?_
  rintro e w1 ⟨rfl,c1⟩
  rw [hg]
  go_wp2_with fail
  go_ret
  have:=HC.out.trans c1
  exact ⟨rfl,this.mono (by simp),HB.out.keep this (by simp)⟩
 by_cases hr:room≤es.length
 ·rw [show sbE room es x=es by simp [sbE,hg,hr],show sbV room es x=13 by simp [sbV,hg,hr]]
  have t3:decide (room≤es.length)=true:=by simpa using hr
  clear hr
  go_enter Tryz.func203,Tryz.ntmps203
  go_wp2_with fail
  refine (Qhw x _).mono ?_
  rintro e w1 ⟨rfl,c1⟩
  rw [hg]
  have HC1:=Vh (HC.out.trans c1)
  obtain ⟨r,f,hq,_⟩:=HB.out.keep HC1.out (by simp)
  clear c1
  go_wp2_with fail
  go_quiet (fail)
  go_wp2_with fail
  go_ret
  have:=HC1.out.drewN nq
  exact ⟨rfl,this.mono (by simp),HB.out.keep this (by simp)⟩
 ·rw [show sbE room es x=es++[x] by simp [sbE,hg,hr],show sbV room es x=0 by simp [sbV,hg,hr]]
  have t3:decide (room≤es.length)=false:=by simpa using hr
  have HR:=Vh hr
  clear hr
  go_enter Tryz.func203,Tryz.ntmps203
  go_wp2_with fail
  refine (Qhw x _).mono ?_
  rintro e w1 ⟨rfl,c1⟩
  rw [hg]
  have hx1:=c1.keep hx (by simp)
  have HC1:=Vh (HC.out.trans c1)
  clear c1 hx
  generalize w.heap.size=p at hx1 ON ⊢
  obtain ⟨r,f,hq,hf,hall,hle⟩:=HB.out.keep HC1.out (by simp)
  have HF:=Vh hf
  have HA:=Vh hall
  have HL:=Vh hle
  have hn:es.length≤1000:=by omega
  have g2:(es.length:Int)≤1000:=by omega
  have HN:=Vh hn
  clear hf hall hle hn
  go_wp2_with fail
  go_quiet (fail)
  go_wp2_with fail
  have c2:=(Chg.refl [] w1).drewN nq
  have hq2:=c2.keep hq (by simp)
  have hx2:=c2.keep hx1 (by simp)
  have HC2:=Vh (HC1.out.trans c2)
  clear hq hx1 c2
  generalize w1.drewN nq=w2 at hq2 hx2 HC2 ⊢
  have oq2:=old hq2
  have ox2:=old hx2
  go_region_law
   (first |(go_simp;go_at_call 136;refine (sat_c HF.out HN.out ((Chg.refl [] w2).drew.keep hq2 (by simp))).mono ?_;rintro e w3 ⟨rfl,c3⟩;have hq3:=(((Chg.refl [] w2).drew).trans c3).keep hq2 (by simp);have hx3:=(((Chg.refl [] w2).drew).trans c3).keep hx2 (by simp)))
  all_goals
   have hq4:(putRow w3 q (1+pl f es.length*5) (sec x)).heap[q]? =some (.cells (bfc room (r.put (pl f es.length) x) f es.length) 180 (0,0)):=by
    rw [Qc _ _ _ _ _ (by rw [hq3,Q8];exact Qgk _ _ _ _ _ _),if_pos rfl,hq3,Qex]
   have HC4:=Vh (((HC2.out.trans (((Chg.refl [] w2).drew).trans c3)).mono (l':=[q]) (by simp)).putRow q (1+pl f es.length*5) (sec x) (.inl (by simp)))
   clear hq2 hx2 hq3 hx3 c3 ox2 oq2
   generalize putRow w3 q (1+pl f es.length*5) (sec x)=w4 at hq4 HC4 ⊢
   go_wp2_with fail
   go_ret
   refine ⟨rfl,HC4.out.setCell _ _ _ (.inl (by simp)),r.put (pl f es.length) x,f,?_,HF.out,ring_push HA.out (by have:=HR.out;have:=HL.out;omega),?_,HL.out.2.1,HL.out.2.2⟩
   ·rw [heap_setCell,if_pos rfl,hq4,Qf]
    have:=J5 room (r.put (pl f es.length) x) f es.length (es.length+1)
    rw [show ((es.length:Int)+1)=((es.length+1:Nat):Int) by omega,this,List.length_append]
    rfl
   ·have:=HR.out
    rw [List.length_append]
    simp only [List.length_cons,List.length_nil]
    omega
theorem shead_nil (w:World):Calls Tryz.prog 117 #[.pointer none] w fun e w'=>e=.returned (.tuple #[.agg (sec seZ),.bool false])∧Chg [] w w':=by
 go_enter Tryz.func117,Tryz.ntmps117
 go_wp2_with (go_at_call 135;refine (slen_nil _).mono ?_;rintro e w' ⟨rfl,rfl⟩)
 refine bodyPost_ret (v:=.tuple #[.agg (sec seZ),.bool false]) ?_ (by rfl) ?_
 ·exact Qak (by rfl) _ _ w.heap.size seZ (0,0) (by rfl) (by simp [*];try rfl) _ (by rfl)
 exact ⟨rfl,(Chg.refl _ _).alloc _⟩
theorem shead_ok {w:World} {q room:Nat} {es:List Se} (hb:Buf w q room es):Calls Tryz.prog 117 #[.pointer (some ⟨q,0,none⟩)] w fun e w'=>e=.returned (.tuple #[.agg (sec (hdE es)),.bool (hdB es)])∧Chg [] w w':=by
 have HB:=Vh (hb.keep ((Chg.refl [] w).alloc (.cells (sec seZ) 177)) (by simp))
 have oq:=hb.oldq
 clear hb
 rcases es with _|⟨x,es⟩
 ·go_enter Tryz.func117,Tryz.ntmps117
  go_wp2_with (go_at_call 135;refine (Qhv HB.out).mono ?_;rintro e w' ⟨rfl,rfl⟩)
  refine bodyPost_ret (v:=.tuple #[.agg (sec seZ),.bool false]) ?_ (by rfl) ?_
  ·exact Qak (by rfl) _ _ w.heap.size seZ (0,0) (by rfl) (by simp [*];try rfl) _ (by rfl)
  exact ⟨rfl,(Chg.refl _ _).alloc _⟩
 ·have t0:(((x::es).length:Int)==0)=false:=by simp;omega
  generalize hes:x::es=ys at HB t0
  have HE:=Vh (show ys[0]? =some x by rw [←hes];rfl)
  have hx:(w.alloc (.cells (sec seZ) 177)).heap[w.heap.size]? =some (.cells (sec seZ) 177 (0,0)):=by simp
  have HC:=Vh ((Chg.refl [] w).alloc (.cells (sec seZ) 177))
  rw [show hdE ys=x by rw [←hes];rfl,show hdB ys=true by rw [←hes];rfl]
  clear hes
  go_enter Tryz.func117,Tryz.ntmps117
  go_wp2_with fail
  generalize hp:w.heap.size=p at hx ⊢
  have HP:=Vh hp
  clear hp
  generalize w.alloc (.cells (sec seZ) 177)=w1 at HB hx HC ⊢
  refine (Qhv HB.out).mono ?_
  rintro e w' ⟨rfl,rfl⟩
  go_wp2_with fail
  obtain ⟨r,f,hq,hf,hall,_⟩:=HB.out
  refine (sat_c (n:=0) hf (by omega) hq).mono ?_
  rintro e w2 ⟨rfl,c2⟩
  have hg:=hall 0 x HE.out
  have hq2:=c2.keep hq (by simp)
  have hx2:=c2.keep hx (by simp)
  have HC2:=Vh (HC.out.trans c2)
  have oq2:=old hq2
  have ox2:=old hx2
  have hpart:=Qft room r f ys.length 180 (0,0) 0
  rw [hg] at hpart
  clear hq hx c2 hall hf hg
  go_wp2_with fail
  refine bodyPost_ret (v:=.tuple #[.agg (sec x),.bool true]) ?_ (by rfl) ?_
  ·exact Qak (by rfl) _ _ p x (0,0) (by rfl) (by simp [*];try rfl) _ (by rfl)
  exact ⟨rfl,HC2.out.putRow _ _ _ (.inr (by have:=HP.out;omega))⟩
end
section
attribute [local go_sem ↓] Qv QF Qy QO QE Qs Yq Xu loadBuf storeBuf Qk Qh heap_alloc Ql heap_setCell Qc Yi Yh Yd Ye Yf bfc_room bfc_first bfc_count
attribute [local go_sem] Qb Qa Qd Qi Qe Qg Qf Yc QB Qw QN QL QM Q5 QK QA Qr QD fit_pl QW QJ Qq QC Qp Qj Qo Qn Q8 Xv Xw JT Yg ZZ ZY ZX ZW Yn Ym Yj Yk Yl Qc7 Qa5 J5 Qgk Qft Qex Qfs
attribute [local simp ↓] Qk Qh heap_alloc Ql heap_setCell Qc
attribute [local simp] Qb Qa Qd Qi Qe Qg Qf Qr fit_pl Qj Qo Qn Q8 Qc7 Qa5 J5 Qgk Qex Qfs
attribute [local go_sem ↓] zbuf
attribute [local go_sem] Qio bfc_ne
theorem ring_pop {r:Ring} {f:Nat} {x:Se} {es:List Se} (h:∀n e,(x::es)[n]? =some e→r.get (pl f n)=e) (hl:(x::es).length≤16):∀n e,es[n]? =some e→(r.put (pl f 0) seZ).get (pl (pl f 1) n)=e:=by
 intro n e hn
 have h1:=(Vg hn).1
 simp only [List.length_cons] at hl
 rw [pl_next,Ring.put_other _ (pl_ne (by omega) (by omega))]
 exact h (n+1) e (by simpa using hn)
theorem spop_nil (w:World):Calls Tryz.prog 153 #[.pointer none] w fun e w'=>e=.returned (.tuple #[.agg (sec seZ),.bool false])∧Chg [] w w':=by
 go_enter Tryz.func153,Tryz.ntmps153
 go_wp2_with fail
 have hx:(w.alloc (.cells (sec seZ) 177)).heap[w.heap.size]? =some (.cells (sec seZ) 177 (0,0)):=by simp
 have HC:=Vh ((Chg.refl [] w).alloc (.cells (sec seZ) 177))
 generalize hp:w.heap.size=p at hx ⊢
 have HP:=Vh hp
 clear hp
 generalize w.alloc (.cells (sec seZ) 177)=w1 at hx HC ⊢
 refine (shead_nil w1).mono ?_
 rintro e w2 ⟨rfl,c2⟩
 have hx2:=c2.keep hx (by simp)
 have ox2:=old hx2
 have HC2:=Vh (HC.out.trans c2)
 clear hx c2
 go_wp2_with fail
 refine bodyPost_ret (v:=.tuple #[.agg (sec seZ),.bool false]) ?_ (by rfl) ?_
 ·exact Qak (by rfl) _ _ p seZ (0,0) (by rfl) (by simp [*];try rfl) _ (by rfl)
 exact ⟨rfl,(HC2.out.alloc _).putRow _ _ _ (.inr (by have:=HP.out;omega))⟩
theorem spop_ok {w:World} {q room:Nat} {es:List Se} (hb:Buf w q room es):Calls Tryz.prog 153 #[.pointer (some ⟨q,0,none⟩)] w (BufTo w q room es.tail (.tuple #[.agg (sec (hdE es)),.bool (hdB es)])):=by
 have HB:=Vh (hb.keep ((Chg.refl [] w).alloc (.cells (sec seZ) 177)) (by simp))
 have oq:=hb.oldq
 clear hb
 have hx:(w.alloc (.cells (sec seZ) 177)).heap[w.heap.size]? =some (.cells (sec seZ) 177 (0,0)):=by simp
 have HC:=Vh ((Chg.refl [] w).alloc (.cells (sec seZ) 177))
 have HPQ:=Vh (show w.heap.size≠q from by have:=oq.lt;omega)
 go_enter Tryz.func153,Tryz.ntmps153
 go_wp2_with fail
 generalize hp:w.heap.size=p at hx HPQ ⊢
 have HP:=Vh hp
 clear hp
 generalize w.alloc (.cells (sec seZ) 177)=w1 at HB hx HC ⊢
 refine (shead_ok HB.out).mono ?_
 rintro e w2 ⟨rfl,c2⟩
 have hx2:=c2.keep hx (by simp)
 have ox2:=old hx2
 have HC2:=Vh (HC.out.trans c2)
 have HB2:=Vh (HB.out.keep c2 (by simp))
 have oq2:=HB2.out.oldq
 clear hx c2 HB
 rcases es with _|⟨x,es⟩
 ·rw [show hdE []=seZ from rfl,show hdB []=false from rfl]
  go_wp2_with fail
  refine bodyPost_ret (v:=.tuple #[.agg (sec seZ),.bool false]) ?_ (by rfl) ?_
  ·exact Qak (by rfl) _ _ p seZ (0,0) (by rfl) (by simp [*];try rfl) _ (by rfl)
  have hc:=((Chg.refl [] w2).alloc (.cells (sec seZ) 177))
  have hc2:Chg [p] (w2.alloc (.cells (sec seZ) 177)) (putRow (w2.alloc (.cells (sec seZ) 177)) p 0 (sec seZ)):=(Chg.refl _ _).putRow _ _ _ (.inl (by simp))
  refine ⟨rfl,(((HC2.out.trans hc).mono (l':=[q]) (by simp)).putRow _ _ _ (.inr (by have:=HP.out;omega))),(HB2.out.keep hc (by simp)).keep hc2 (by simpa using Ne.symm HPQ.out)⟩
 ·rw [show hdE (x::es)=x from rfl,show hdB (x::es)=true from rfl,show (x::es).tail=es from rfl]
  have hy:(w2.alloc (.cells (sec x) 177)).heap[w2.heap.size]? =some (.cells (sec x) 177 (0,0)):=by simp
  have c3:=(Chg.refl [] w2).alloc (.cells (sec x) 177)
  have hx3:=c3.keep hx2 (by simp)
  have HB3:=Vh (HB2.out.keep c3 (by simp))
  have HC3:=Vh (HC2.out.trans c3)
  have HPY:=Vh (show w2.heap.size≠p from by have:=ox2.lt;omega)
  have HQY:=Vh (show w2.heap.size≠q from by have:=oq2.lt;omega)
  clear hx2 c3 HB2 HC2
  go_wp2_with fail
  generalize w2.heap.size=y at hy HPY HQY ⊢
  generalize w2.alloc (.cells (sec x) 177)=w3 at hx3 hy HB3 HC3 ⊢
  obtain ⟨r,f,hq,hf,hall,hle⟩:=HB3.out
  have HF:=Vh hf
  have HA:=Vh (ring_pop hall (by omega))
  have HL:=Vh hle
  clear hf hall hle
  refine (sat_c (n:=0) HF.out (by omega) hq).mono ?_
  rintro e w4 ⟨rfl,c4⟩
  have hq4:=c4.keep hq (by simp)
  have hx4:=c4.keep hx3 (by simp)
  have hy4:=c4.keep hy (by simp)
  have HC4:=Vh (HC3.out.trans c4)
  have oq4:=old hq4
  have ox4:=old hx4
  have oy4:=old hy4
  clear hq hx3 hy c4
  go_wp2_with fail
  have c5:Chg [q] w4 (putRow w4 q (1+pl f 0*5) (sec seZ)):=(Chg.refl [q] w4).putRow _ _ _ (.inl (by simp))
  have hq5:(putRow w4 q (1+pl f 0*5) (sec seZ)).heap[q]? =some (.cells (bfc room (r.put (pl f 0) seZ) f (x::es).length) 180 (0,0)):=by
   rw [Qc _ _ _ _ _ (by rw [hq4,Q8];exact Qgk _ _ _ _ _ _),if_pos rfl,hq4,Qex]
  have hx5:=c5.keep hx4 (by simpa using HPQ.out)
  have hy5:=c5.keep hy4 (by simpa using HQY.out)
  have HC5:=Vh ((HC4.out.mono (l':=[q]) (by simp)).trans c5)
  clear hq4 hx4 hy4 c5 oq4 ox4 oy4
  generalize putRow w4 q (1+pl f 0*5) (sec seZ)=w5 at hq5 hx5 hy5 HC5 ⊢
  refine (splace_at (n:=1) HF.out (by omega) hq5).mono ?_
  rintro e w6 ⟨rfl,rfl⟩
  have oq5:=old hq5
  have ox5:=old hx5
  have oy5:=old hy5
  have ne1:(p=q)=False:=eq_false HPQ.out
  have ne2:(y=q)=False:=eq_false HQY.out
  have ne3:(y=p)=False:=eq_false HPY.out
  have hlen:(((x::es).length:Int)-1)=((es.length:Nat):Int):=by simp
  have hlb:(((x::es).length:Nat):Int)≤16:=by have:=HL.out;omega
  have hlb0:(1:Int)≤(((x::es).length:Nat):Int):=by rw [List.length_cons];omega
  have HLE:=Vh (show es.length≤(x::es).length by simp)
  generalize (x::es).length=m at hq5 hlen hlb hlb0 HL HLE ⊢
  go_wp2_with fail
  have h6:((w5.setCell ⟨q,81,none⟩ (.int .i64 (pl f 1))).setCell ⟨q,82,none⟩ (.int .i64 es.length)).heap[q]? =some (.cells (bfc room (r.put (pl f 0) seZ) (pl f 1) es.length) 180 (0,0)):=by
   rw [heap_setCell,if_pos rfl,heap_setCell,if_pos rfl,hq5,Qf,Qf,Qa5,J5]
  have c6:Chg [q] w5 ((w5.setCell ⟨q,81,none⟩ (.int .i64 (pl f 1))).setCell ⟨q,82,none⟩ (.int .i64 es.length)):=((Chg.refl [q] w5).setCell _ _ _ (.inl (by simp))).setCell _ _ _ (.inl (by simp))
  have hx6:=c6.keep hx5 (by simpa using HPQ.out)
  generalize (w5.setCell ⟨q,81,none⟩ (.int .i64 (pl f 1))).setCell ⟨q,82,none⟩ (.int .i64 es.length)=w6 at h6 c6 hx6 ⊢
  have c7:Chg [p] w6 (putRow w6 p 0 (sec x)):=(Chg.refl [p] w6).putRow _ _ _ (.inl (by simp))
  refine bodyPost_ret (v:=.tuple #[.agg (sec x),.bool true]) ?_ (by rfl) ?_
  ·exact Qak (by rfl) _ _ p x (0,0) (by rfl) (by simp [hx6];try rfl) _ (by rfl)
  refine ⟨rfl,(HC5.out.trans c6).trans' c7 (by have:=HP.out;simp;omega),r.put (pl f 0) seZ,pl f 1,c7.keep h6 (by simpa using Ne.symm HPQ.out),pl_lt _ _,HA.out,by have:=HL.out;have:=HLE.out;show es.length≤room;omega,HL.out.2.1,HL.out.2.2⟩
theorem ring_send {r:Ring} {f:Nat} {x:Se} {es:List Se} (h:∀n e,(x::es)[n]? =some e→r.get (pl f n)=e) (hl:(x::es).length≤16):∀n e,(sent x::es)[n]? =some e→(r.put (pl f 0) (sent (r.get (pl f 0)))).get (pl f n)=e:=by
 intro n e hn
 have h0:=h 0 x rfl
 rcases n with _|n
 ·rw [Ring.put_same _ (pl_lt _ _),h0]
  simpa [sent] using hn
 ·have h1:=(Vg hn).1
  simp only [List.length_cons] at hl h1
  rw [Ring.put_other _ (pl_ne (by omega) (by omega))]
  exact h (n+1) e (by simpa using hn)
theorem ssend_ok {w:World} {q room:Nat} {es:List Se} (hb:Buf w q room es):Calls Tryz.prog 156 #[.pointer (some ⟨q,0,none⟩)] w (BufTo w q room (sdE es) (.tuple #[])):=by
 have HB:=Vh hb
 clear hb
 go_enter Tryz.func156,Tryz.ntmps156
 go_wp2_with fail
 refine (shead_ok HB.out).mono ?_
 rintro e w2 ⟨rfl,c2⟩
 have HB2:=Vh (HB.out.keep c2 (by simp))
 have oq2:=HB2.out.oldq
 have HC2:=Vh c2
 clear c2 HB
 rcases es with _|⟨x,es⟩
 ·rw [show hdE []=seZ from rfl,show hdB []=false from rfl]
  go_wp2_with fail
  go_end0
  have hc:=((Chg.refl [] w2).alloc (.cells (sec seZ) 177))
  exact ⟨rfl,(HC2.out.trans hc).mono (by simp),HB2.out.keep hc (by simp)⟩
 ·rw [show hdE (x::es)=x from rfl,show hdB (x::es)=true from rfl]
  by_cases h14:x.kd=14
  ·have HS:=Vh (show sdE (x::es)=sent x::es by simp [sdE,h14])
   have t14:(x.kd==14)=true:=by simp [h14]
   have hy:(w2.alloc (.cells (sec x) 177)).heap[w2.heap.size]? =some (.cells (sec x) 177 (0,0)):=by simp
   have c3:=(Chg.refl [] w2).alloc (.cells (sec x) 177)
   have HB3:=Vh (HB2.out.keep c3 (by simp))
   have HC3:=Vh (HC2.out.trans c3)
   clear c3 HB2 HC2 h14
   go_wp2_with fail
   generalize w2.heap.size=y at hy ⊢
   generalize w2.alloc (.cells (sec x) 177)=w3 at hy HB3 HC3 ⊢
   obtain ⟨r,f,hq,hf,hall,hle⟩:=HB3.out
   have HF:=Vh hf
   have HA:=Vh (ring_send hall (by omega))
   have HL:=Vh hle
   clear hf hall hle hy
   refine (sat_c (n:=0) HF.out (by omega) hq).mono ?_
   rintro e w4 ⟨rfl,c4⟩
   have hq4:=c4.keep hq (by simp)
   have HC4:=Vh (HC3.out.trans c4)
   have oq4:=old hq4
   clear hq c4
   generalize hm:(x::es).length=m at hq4 HL
   have HM:=Vh (show (sent x::es).length=m from hm)
   clear hm
   have h83:(bfc room r f m)[1+pl f 0*5+4]? =some (.bool (r.get (pl f 0)).sn):=bfc_sn _ _ _ _ _
   go_wp2_with fail
   go_end0
   refine ⟨rfl,(HC4.out.mono (l':=[q]) (by simp)).setCell _ _ _ (.inl (by simp)),?_⟩
   rw [HS.out]
   refine ⟨r.put (pl f 0) (sent (r.get (pl f 0))),f,?_,HF.out,HA.out,by rw [HM.out];exact HL.out⟩
   rw [heap_setCell,if_pos rfl,hq4,Qfs,HM.out]
  ·have HS:=Vh (show sdE (x::es)=x::es by simp [sdE,h14])
   have t14:(x.kd==14)=false:=by simpa using h14
   clear h14
   go_wp2_with fail
   go_end0
   have hc:=((Chg.refl [] w2).alloc (.cells (sec x) 177))
   exact ⟨rfl,(HC2.out.trans hc).mono (by simp),by rw [HS.out];exact HB2.out.keep hc (by simp)⟩
theorem sfind_ok {w:World} {q room:Nat} {es:List Se} (li wo:Int) (hb:Buf w q room es):Calls Tryz.prog 201 #[.pointer (some ⟨q,0,none⟩),.int .i64 li,.int .i64 wo] w fun e w'=>e=.returned (.tuple #[.int .u64 (fdV es li wo),.bool (fdB es li wo)])∧Chg [] w w':=by
 have HB:=Vh hb
 have hl16:(es.length:Int)≤16:=by have:=hb.le;omega
 clear hb
 go_enter Tryz.func201,Tryz.ntmps201
 go_wp2_with (go_at_call 135;refine (Qhv HB.out).mono ?_;rintro e w' ⟨rfl,rfl⟩)
 go_loopw [8] (fun x wr=>∃(k:Nat) (z:Int),k≤es.length∧z=(k:Int)-1∧x=.int .i64 z∧Chg [] w wr∧∀y∈es.drop k,isAt li wo y=false) (fun x _=>(intOf x+1).toNat)
 case atStart=>exact ⟨es.length,_,by omega,rfl,rfl,Chg.refl _ _,by simp⟩
 case round=>
  obtain ⟨k,z,hk,hz,rfl,hc,hno⟩:=hrel
  have HNO:=Vh hno
  have HC:=Vh hc
  clear hno hc
  rcases k with _|j
  ·obtain rfl:z= -1:=by omega
   clear hz
   have hn:fdO es li wo=none:=fdO_none (by simpa using HNO.out)
   have HH:=Vh hn
   clear hn
   go_wp2_with fail
   go_ret2
   have hn:=HH.out
   exact ⟨by rw [show fdV es li wo=0 by simp [fdV,hn],show fdB es li wo=false by simp [fdB,hn]];rfl,HC.out⟩
  ·obtain rfl:z=(j:Int):=by omega
   clear hz
   obtain ⟨e,he⟩:∃e,es[j]? =some e:=⟨es[j],List.getElem?_eq_getElem hk⟩
   have HE:=Vh he
   have g0:(0:Int)≤(j:Int):=by omega
   have g1:(j:Int)≤16:=by omega
   have HJ:=Vh hk
   clear he hk
   obtain ⟨r,f,hq,hf,hall,hle⟩:=HB.out.keep HC.out (by simp)
   have hget:=hall j e HE.out
   have HF:=Vh hf
   clear hall hle hf
   go_wp2_with fail
   refine (sat_c HF.out (by omega) hq).mono ?_
   rintro a w2 ⟨rfl,c2⟩
   have hq2:=c2.keep hq (by simp)
   have oq2:=old hq2
   have HC2:=Vh (HC.out.trans c2)
   have b0:(bfc room r f es.length)[1+pl f j*5]? =some (.int .i64 e.kd):=hget▸bfc_kd _ _ _ _ _
   have b1:(bfc room r f es.length)[1+pl f j*5+1]? =some (.int .i64 e.li):=hget▸bfc_li _ _ _ _ _
   have b2:(bfc room r f es.length)[1+pl f j*5+2]? =some (.int .i64 e.wo):=hget▸bfc_wo _ _ _ _ _
   have b3:(bfc room r f es.length)[1+pl f j*5+3]? =some (.int .u64 e.va):=hget▸bfc_va _ _ _ _ _
   clear hq c2 hget
   cases hat:isAt li wo e
   ·have HN2:=Vh (drop_all12 HE.out hat HNO.out)
    have hp:(e.kd==9)=false∨(e.kd==9)=true∧(e.li==li)=false∨(e.kd==9)=true∧(e.li==li)=true∧(e.wo==wo)=false:=by
     unfold isAt at hat
     cases h1:(e.kd==9)<;>cases h2:(e.li==li)<;>cases h3:(e.wo==wo)<;>simp_all
    clear hat
    rcases hp with t|⟨t,t1⟩|⟨t,t1,t2⟩
    all_goals
     go_wp2_with fail
     go_roundw
     case rel=>exact ⟨j,_,by have:=HJ.out;omega,rfl,rfl,HC2.out,HN2.out⟩
     case measure=>simp [intOf]
   ·have hn:fdO es li wo=some e:=fdO_some HE.out hat HNO.out
    have HH:=Vh hn
    obtain ⟨t,t1,t2⟩:(e.kd==9)=true∧(e.li==li)=true∧(e.wo==wo)=true:=by simpa [isAt] using hat
    clear hn hat
    go_wp2_with fail
    go_ret2
    have hn:=HH.out
    exact ⟨by rw [show fdV es li wo=e.va by simp [fdV,hn],show fdB es li wo=true by simp [fdB,hn]];rfl,HC2.out⟩
theorem se_info:(Tryz.prog.info? 177).map (fun i=>(i.zero,i.size,i.bytes))=some (some sezV,5,40):=by kernel_rfl
theorem made_se (n:Nat):madeCells sezV.cells (n*5)=sq Se.enc (List.replicate n seZ) []:=by
 apply Array.ext
 ·rw [Jw Se.len]
  simp [madeCells]
 ·intro k h1 h2
  have hk:k<n*5:=by simpa [madeCells] using h1
  obtain ⟨i,j,hj,rfl⟩:∃i j,j<5∧k=i*5+j:=⟨k / 5,k % 5,Nat.mod_lt _ (by omega),by omega⟩
  have hi:i<n:=by omega
  have h3:=JM (enc:=Se.enc) Se.len (xs:=List.replicate n seZ) (i:=i) (a:=seZ) (by simp [hi]) [] j hj
  rw [Array.getElem?_eq_getElem h2] at h3
  have h5:j=0∨j=1∨j=2∨j=3∨j=4:=by omega
  have h6:(i*5+j) % 5=j:=by omega
  have h7:sezV.cells.size=5:=sezV_size
  apply Option.some.inj
  rw [h3]
  simp only [madeCells,Array.getElem_map,Array.getElem_range,h7,h6]
  rcases h5 with rfl|rfl|rfl|rfl|rfl<;>rfl
theorem run_make_se (w:World) (n:Nat) (hn:n≤1000):mkR Tryz.prog 151 (.int .i64 n) (.int .i64 n) w=.ok (.slice (some ⟨w.heap.size,0,none⟩) n n) (w.alloc (.cells (sq Se.enc (List.replicate n seZ) []) 177)):=by
 obtain ⟨i0,hi0,hz0,hz1,hz2⟩:=info_parts se_info
 have:=run_make (P:=Tryz.prog) w 151 177 i0 _ Tryz.underlying151 hi0 hz0 .i64 .i64 n n (by omega) (by omega) (by rw [hz2];omega) (by omega)
 simp only [Int.toNat_natCast,hz1] at this
 rw [←made_se]
 exact this
def Qgf (es:List Se) (k:Nat):List Se:=es.take k++List.replicate (es.length-k) seZ
theorem fillE_zero (es:List Se):Qgf es 0=List.replicate es.length seZ:=by simp [Qgf]
theorem fillE_all (es:List Se):Qgf es es.length=es:=by simp [Qgf]
theorem fillE_length (es:List Se) (k:Nat) (h:k≤es.length):(Qgf es k).length=es.length:=by simp [Qgf];omega
theorem fillE_succ {es:List Se} {k:Nat} {e:Se} (h:es[k]? =some e):Zx (Qgf es k) k [e]=Qgf es (k+1):=by
 obtain ⟨hk,rfl⟩:=Vg h
 unfold Qgf Zx
 have e1:(es.take k).length=k:=by simp;omega
 obtain ⟨m,hm⟩:∃m,es.length-k=m+1:=⟨es.length-k-1,by omega⟩
 rw [hm,show es.length-(k+1)=m by omega,List.take_append_of_le_length (by omega),List.take_of_length_le (by omega),List.take_succ_eq_append_getElem hk]
 rw [List.drop_append,List.drop_eq_nil_of_le (by rw [e1];simp),e1]
 simp
def SeTold (w:World) (es:List Se) (e:Ending) (w':World):Prop:=∃b,e=.returned (.slice (some ⟨b,0,none⟩) es.length es.length)∧w.heap.size≤b∧Chg [] w w'∧w'.heap[b]? =some (.cells (sq Se.enc es []) 177 (0,0))
theorem sall_ok {w:World} {q room:Nat} {es:List Se} (hb:Buf w q room es):Calls Tryz.prog 101 #[.pointer (some ⟨q,0,none⟩)] w (SeTold w es):=by
 have HB:=Vh hb
 have oq:=hb.oldq
 have hl16:(es.length:Int)≤16:=by have:=hb.le;omega
 have hmk:=run_make_se w es.length (by omega)
 have c1:=(Chg.refl [] w).alloc (.cells (sq Se.enc (List.replicate es.length seZ) []) 177)
 have hb1:(w.alloc (.cells (sq Se.enc (List.replicate es.length seZ) []) 177)).heap[w.heap.size]? =some (.cells (sq Se.enc (List.replicate es.length seZ) []) 177 (0,0)):=by simp
 generalize w.alloc (.cells (sq Se.enc (List.replicate es.length seZ) []) 177)=w1 at hmk c1 hb1
 have HB1:=Vh hb1
 have HC1:=Vh c1
 have HN:=Vh (show w.heap.size≠q by have:=oq.lt;omega)
 clear hb hb1 c1
 go_enter Tryz.func101,Tryz.ntmps101
 go_wp2_with (go_at_call 135;refine (Qhv HB.out).mono ?_;rintro e w' ⟨rfl,rfl⟩)
 generalize hp:w.heap.size=p at HB1 HN
 have HP:=Vh hp
 clear hp
 go_loopw [4,10] (fun _ i wr=>∃k:Nat,k≤es.length∧i=.int .i64 k∧Chg [p] w1 wr∧wr.heap[p]? =some (.cells (sq Se.enc (Qgf es k) []) 177 (0,0))) (fun _ i _=>es.length-(intOf i).toNat)
 case atStart=>exact ⟨0,by omega,rfl,Chg.refl _ _,by rw [fillE_zero];exact HB1.out⟩
 case round=>
  obtain ⟨k,hk,rfl,hc,hb⟩:=hrel
  have HC:=Vh hc
  have hb2:=(HB.out.keep HC1.out (by simp)).keep hc (by simpa using Ne.symm HN.out)
  by_cases hlt:k<es.length
  ·obtain ⟨e,he⟩:∃e,es[k]? =some e:=⟨es[k],List.getElem?_eq_getElem hlt⟩
   have HE:=Vh he
   obtain ⟨r,f,hq,hf,hall,hle⟩:=hb2
   have hget:=hall k e he
   have HF:=Vh hf
   have HLT:=Vh hlt
   have g1:(k:Int)<(es.length:Int):=by omega
   have g0:(0:Int)≤(k:Int):=by omega
   have hpart:=Qft room r f es.length 180 (0,0) k
   rw [hget] at hpart
   clear hall hle hf hc he hlt hget
   go_wp2_with fail
   refine (sat_c HF.out (by omega) hq).mono ?_
   rintro a w2 ⟨rfl,c2⟩
   have hq2:=c2.keep hq (by simp)
   have hb3:=c2.keep hb (by simp)
   have HC2:=Vh (HC.out.trans (c2.mono (by simp)))
   have oq2:=old hq2
   have ob2:=old hb3
   have hln:=fillE_length es k (by omega)
   have rh:ZO (some (.cells (sq Se.enc (Qgf es k) []) 177 (0,0))) (k*5) 5=true:=by
    rw [Qd,Jw Se.len,hln];exact decide_eq_true (show _≤_ by have:=HLT.out;simp;omega)
   have rf:Fit (k*5) 5 (sq Se.enc (Qgf es k) []).size=True:=by
    rw [Jw Se.len,hln];exact eq_true (show _≤_ by have:=HLT.out;simp;omega)
   have HR:=Vh rh
   have HH:=Vh hb3
   clear hq c2 hln hb
   go_wp2_with fail
   have h9:(putRow w2 p (k*5) (sec e)).heap[p]? =some (.cells (sq Se.enc (Qgf es (k+1)) []) 177 (0,0)):=by
    rw [Qc _ _ _ _ _ (by rw [HH.out,Q8];exact HR.out),if_pos rfl,HH.out,Xx,X7,sec_enc,List.toList_toArray,List.append_nil,←Qc6 (enc:=Se.enc) e,Qeb Se.len,fillE_succ HE.out]
    simp [sq]
   go_roundw
   case rel=>exact ⟨k+1,by have:=HLT.out;omega,by go_num,HC2.out.putRow _ _ _ (.inl (by simp)),h9⟩
   case measure=>simp [intOf];omega
  ·have:k=es.length:=by omega
   subst this
   go_wp2_with fail
   go_ret
   rw [fillE_all] at hb
   exact ⟨p,rfl,by have:=HP.out;omega,HC1.out.trans' HC.out (by have:=HP.out;simp;omega),hb⟩
end
section
theorem YB:Wide Tryz.prog 48 5:=⟨⟨_,Tryz.underlying48,by rfl⟩,by kernel_rfl⟩
theorem YD (x:Value):Instr.loadAt 48 x=Qda 48 5 x:=rfl
theorem XA (x y:Value):Instr.storeAt 48 x y=Qag 48 5 x y:=rfl
theorem YC (x:Value):Instr.loadAt 58 x=Qda 58 8 x:=rfl
theorem Xz (x y:Value):Instr.storeAt 58 x y=Qag 58 8 x y:=rfl
set_option maxRecDepth 100000
attribute [local go_sem ↓] Qv QF Qy QO QE Qs Qk Qh heap_alloc Ql heap_setCell Qc Yq Xu Xg ZP YD XA YC Xz Yi Yh Yd Ye Yf Xh XW XV XU Xj YK YL YJ YG YH YX YT XE YV YW YU YS
attribute [local go_sem] Qb Qa Qd Qi Qe Qg Qf QB Qw QN QL QM Q5 QK QA Qr QD QW QJ Qq QC Qp Qj Qo Qn Yc Xf YB Q8 Xv Xw JT Yg ZZ ZY ZX ZW Yn Ym Yj Yk Yl QG ZQ Xi ZR XT Zc XB YI XC Qad Xa Z9 Z8 Z7 Z6 YP YQ YO YM YN Z3 QY QZ QX QP Qt Zk
attribute [local simp ↓] Qk Qh heap_alloc Ql heap_setCell Qc
attribute [local simp] Qb Qa Qd Qi Qe Qg Qf Qr Qj Qo Qn Q8 QG Zc QY QZ QX QP Qt QD
def CoAt (w:World) (kb:Nat) (id:Int) (ru:Bool) (rg:List Int) (pb np:Nat) (pc:Int) (qb:Nat) (wt:Int):Prop:=w.heap[kb]? =some (.cells (coc id ru rg pb np pc qb wt) 136 (0,0))
theorem results_ev {fn:Func} {p:Tmp} (h:fn.results=#[.cell p 48]) (tmps:Array Value) (w:World) (q:Nat) (x:Ev) (fr:Nat×Nat)
 (hp:tmps.getD p undef=.pointer (some ⟨q,0,none⟩)) (hb:w.heap[q]? =some (.cells (evc x) 48 fr)):(results fn tmps).run Tryz.prog w=.ok (.agg (evc x)) w:=by
 have hp':tmps[p]?.getD undef=.pointer (some ⟨q,0,none⟩):=by simpa using hp
 have:=run_loadVar_row (P:=Tryz.prog) w q 48 48 (evc x) fr _ hb Tryz.underlying48 rfl (by rw [Zc];kernel_rfl)
 simp [results,h,hp',asAddr,this]
section
variable {w:World} {kb:Nat} {id:Int} {ru:Bool} {rg:List Int} {pb np:Nat} {pc:Int} {qb:Nat} {wt:Int} (h8:rg.length=8) (hb:w.heap[kb]? =some (.cells (coc id ru rg pb np pc qb wt) 136 (0,0)))
include hb
theorem Qcv (kd li wo va:Int):Calls Tryz.prog 114 #[.pointer (some ⟨kb,0,none⟩),.int .i64 kd,.int .i64 li,.int .i64 wo,.int .u64 va] w fun e w'=>e=.returned (.agg (evc ⟨kd,id,li,wo,va⟩))∧Chg [] w w':=by
 have ob:=old hb
 go_enter Tryz.func114,Tryz.ntmps114
 go_wp2_with fail
 refine bodyPost_ret (v:=.agg (evc ⟨kd,id,li,wo,va⟩)) (results_ev (by rfl) _ _ w.heap.size _ (0,0) (by rfl) (by simp;try rfl)) (by rfl) ⟨rfl,(Chg.refl [] w).alloc _⟩
theorem Qao:Calls Tryz.prog 72 #[.pointer (some ⟨kb,0,none⟩)] w fun e w'=>e=.returned (.bool ru)∧w=w':=by
 go_enter Tryz.func72,Tryz.ntmps72
 go_wp2_with fail
 go_ret
 exact ⟨rfl,rfl⟩
include h8
theorem cnext (v:Value) (h1: -9223372036854775808≤pc+1) (h2:pc+1≤9223372036854775807):Calls Tryz.prog 113 #[.pointer (some ⟨kb,0,none⟩),v] w fun e w'=>e=.returned v∧Chg [kb] w w'∧CoAt w' kb id ru rg pb np (pc+1) qb wt:=by
 have ob:=old hb
 go_enter Tryz.func113,Tryz.ntmps113
 go_wp2_with fail
 go_ret
 refine ⟨rfl,(Chg.refl [kb] w).setCell kb _ _ (.inl (by simp)),?_⟩
 unfold CoAt
 rw [heap_setCell,if_pos rfl,hb,Qf,QZ h8]
theorem cwaits:Calls Tryz.prog 74 #[.pointer (some ⟨kb,0,none⟩)] w fun e w'=>e=.returned (.int .i64 wt)∧w=w':=by
 go_enter Tryz.func74,Tryz.ntmps74
 go_wp2_with fail
 go_ret
 exact ⟨rfl,rfl⟩
theorem cend (kd:Int):Calls Tryz.prog 110 #[.pointer (some ⟨kb,0,none⟩),.int .i64 kd] w fun e w'=>∃be,e=.returned (.slice (some ⟨be,0,none⟩) 1 1)∧Chg [kb] w w'∧CoAt w' kb id false rg pb np pc qb wt∧w'.heap[be]? =some (.cells (evc ⟨kd,id,0,0,0⟩) 48 (0,0))∧w.heap.size≤be:=by
 have _:=h8
 have ob:=old hb
 have hb1:(w.setCell ⟨kb,1,none⟩ (.bool false)).heap[kb]? =some (.cells (coc id false rg pb np pc qb wt) 136 (0,0)):=by
  rw [heap_setCell,if_pos rfl,hb,Qf,QY]
 have hs:(w.setCell ⟨kb,1,none⟩ (.bool false)).heap.size=w.heap.size:=by simp
 have HC:=Vh ((Chg.refl [kb] w).setCell kb 1 (.bool false) (.inl (by simp)))
 go_enter Tryz.func110,Tryz.ntmps110
 go_wp2_with fail
 generalize hw:w.setCell ⟨kb,1,none⟩ (.bool false)=w1 at hb1 hs HC ⊢
 refine (Qcv hb1 kd 0 0 0).mono ?_
 rintro e w2 ⟨rfl,c2⟩
 have hb2:=c2.keep hb1 (by simp)
 have HC2:=Vh (HC.out.trans (c2.mono (by simp)))
 have ob2:=old hb2
 clear hw hb1 HC
 go_wp2_with fail
 go_ret
 refine ⟨w2.heap.size,rfl,HC2.out.alloc _,?_,by simp,?_⟩
 ·unfold CoAt
  rw [heap_alloc,hb2];rfl
 ·have:=c2.size
  omega
theorem cstop:Calls Tryz.prog 99 #[.pointer (some ⟨kb,0,none⟩)] w fun e w'=>e=.returned (.tuple #[])∧Chg [kb] w w'∧CoAt w' kb id false rg pb np pc qb wt:=by
 have _:=h8
 have ob:=old hb
 go_enter Tryz.func99,Tryz.ntmps99
 go_wp2_with fail
 go_end0
 refine ⟨rfl,(Chg.refl [kb] w).setCell kb _ _ (.inl (by simp)),?_⟩
 unfold CoAt
 rw [heap_setCell,if_pos rfl,hb,Qf,QY]
end
theorem cruns_nil (w:World):Calls Tryz.prog 72 #[.pointer none] w fun e w'=>e=.returned (.bool false)∧w=w':=by
 go_enter Tryz.func72,Tryz.ntmps72
 go_wp2_with fail
 go_ret
 exact ⟨rfl,rfl⟩
theorem cwaits_nil (w:World):Calls Tryz.prog 74 #[.pointer none] w fun e w'=>e=.returned (.int .i64 0)∧w=w':=by
 go_enter Tryz.func74,Tryz.ntmps74
 go_wp2_with fail
 go_ret
 exact ⟨rfl,rfl⟩
theorem cexec_nil (w:World) (s:Option Addr):Calls Tryz.prog 87 #[.pointer none,.pointer s] w fun e w'=>e=.returned (.slice none 0 0)∧w=w':=by
 go_enter Tryz.func87,Tryz.ntmps87
 try dsimp only [List.append]
 go_wp2_with (go_at_call 72;refine (cruns_nil _).mono ?_;rintro e w' ⟨rfl,rfl⟩)
 go_ret
 exact ⟨rfl,rfl⟩
theorem cdrain_nil (w:World) (s:Option Addr):Calls Tryz.prog 88 #[.pointer none,.pointer s] w fun e w'=>e=.returned (.slice none 0 0)∧w=w':=by
 go_enter Tryz.func88,Tryz.ntmps88
 try dsimp only [List.append]
 go_wp2_with fail
 go_ret
 exact ⟨rfl,rfl⟩
section
variable {w:World} {kb:Nat} {id:Int} {ru:Bool} {rg:List Int} {pb np:Nat} {pc:Int} {qb:Nat} {wt:Int} (hb:w.heap[kb]? =some (.cells (coc id ru rg pb np pc qb wt) 136 (0,0)))
include hb
end
end
section
set_option maxRecDepth 100000
attribute [local go_sem ↓] Qv QF Qy QO QE Qs Qk Qh heap_alloc Ql heap_setCell Qc Yq Xu Xg ZP YD XA YC Xz Yi Yh Yd Ye Yf Xh XW XV XU Xj YK YL YJ YG YH YX YT XE YV YW YU YS
attribute [local go_sem] Qb Qa Qd Qi Qe Qg Qf QB Qw QN QL QM Q5 QK QA Qr QD QW QJ Qq QC Qp Qj Qo Qn Yc Xf YB Q8 Xv Xw JT Yg ZZ ZY ZX ZW Yn Ym Yj Yk Yl QG ZQ Xi ZR XT Zc XB YI XC Qad Xa Z9 Z8 Z7 Z6 YP YQ YO YM YN Z3 QY QZ QX QP Qt Zk
attribute [local simp ↓] Qk Qh heap_alloc Ql heap_setCell Qc
attribute [local simp] Qb Qa Qd Qi Qe Qg Qf Qr Qj Qo Qn Q8 QG Zc QY QZ QX QP Qt QD
attribute [local go_sem ↓] Qh
structure CoOk (Q:Co):Prop where
 h8:Q.rg.length=8
 pc:Q.pc≤2147483648
 np:Q.pr.length≤4096
 pr:∀x∈Q.pr,0≤x.1∧x.1<18446744073709551616
 wt:Q.wt≤16
 id:0≤Q.id∧Q.id<8
 pos:PosC Q
structure Cor (w:World) (kb pb qb:Nat) (Q:Co):Prop where
 own:w.heap[kb]? =some (.cells (coc Q.id Q.ru Q.rg pb Q.pr.length Q.pc qb Q.wt) 136 (0,0))
 steps:Sts w pb (Q.pr.map stp)
 buf:Buf w qb Q.rm Q.es
 kp:kb≠pb
 kq:kb≠qb
 pq:pb≠qb
 ok:CoOk Q
theorem Cor.keep {w w':World} {kb pb qb:Nat} {Q:Co} {l:List Nat} (h:Cor w kb pb qb Q) (hc:Chg l w w') (h1:kb∉l) (h2:pb∉l) (h3:qb∉l):Cor w' kb pb qb Q:=
 ⟨hc.keep h.own h1,h.steps.keep hc h2,h.buf.keep hc h3,h.kp,h.kq,h.pq,h.ok⟩
theorem Cor.keep0 {w w':World} {kb pb qb:Nat} {Q:Co} (h:Cor w kb pb qb Q) (hc:Chg [] w w'):Cor w' kb pb qb Q:=h.keep hc (by simp) (by simp) (by simp)
theorem Cor.oldk {w:World} {kb pb qb:Nat} {Q:Co} (h:Cor w kb pb qb Q):Old w kb:=old h.own
theorem Cor.oldp {w:World} {kb pb qb:Nat} {Q:Co} (h:Cor w kb pb qb Q):Old w pb:=old h.steps
theorem Cor.oldq {w:World} {kb pb qb:Nat} {Q:Co} (h:Cor w kb pb qb Q):Old w qb:=h.buf.oldq
def EvV (w:World) (B kb:Nat) (F:List Nat) (v:Value) (l:List Ev):Prop:=∃A cap be,v=.slice A l.length cap∧Vec 5 48 Ev.enc w kb be A cap l∧(be=kb∨B≤be)∧(be=kb∨be∉F)
theorem EvV.nil (w:World) (B kb:Nat) (F:List Nat):EvV w B kb F (.slice none 0 0) []:=⟨none,0,kb,rfl,Vec.nil ..,.inl rfl,.inl rfl⟩
theorem EvV.one {w:World} {B kb be:Nat} {F:List Nat} {x:Ev} (h:w.heap[be]? =some (.cells (evc x) 48 (0,0))) (hk:be≠kb) (hB:B≤be) (hF:be∉F):EvV w B kb F (.slice (some ⟨be,0,none⟩) 1 1) [x]:=
 ⟨_,1,be,rfl,.inr ⟨hk,rfl,by simp,[],by rw [Qhs];exact h,by simp⟩,.inr hB,.inr hF⟩
theorem EvV.keep {w w':World} {B kb:Nat} {F:List Nat} {v:Value} {l:List Ev} {m:List Nat} (h:EvV w B kb F v l) (hc:Chg m w w') (hm:∀be,B≤be→be≠kb→be∉F→be∉m):EvV w' B kb F v l:=by
 obtain ⟨A,cap,be,h1,h2,h3,h4⟩:=h
 refine ⟨A,cap,be,h1,?_,h3,h4⟩
 rcases h2 with ⟨e1,e2,e3,e4⟩|⟨e1,e2,e3,r,e4,e5⟩
 ·exact .inl ⟨e1,e2,e3,e4⟩
 ·refine .inr ⟨e1,e2,e3,r,hc.keep e4 (hm be ?_ e1 ?_),e5⟩
  ·exact h3.resolve_left e1
  ·exact h4.resolve_left e1
def CoTo (w:World) (kb pb qb:Nat) (F:List Nat) (Q':Co) (l:List Ev) (e:Ending) (w':World):Prop:=∃v,e=.returned v∧EvV w' w.heap.size kb F v l∧Cor w' kb pb qb Q'∧Chg [kb,pb,qb] w w'
theorem wrap_i64_im {x:Int} (h:0≤x∧x≤2147483647):wrap64 x=x:=by
 have:wrap64 x=(x+9223372036854775808) % 18446744073709551616-9223372036854775808:=by simp [wrap64]
 omega
theorem evv_mono {w:World} {B B' kb:Nat} {F:List Nat} {v:Value} {l:List Ev} (h:EvV w B kb F v l) (hB:B'≤B):EvV w B' kb F v l:=by
 obtain ⟨A,cap,be,h1,h2,h3,h4⟩:=h
 exact ⟨A,cap,be,h1,h2,h3.imp id (Nat.le_trans hB),h4⟩
section
variable {w:World} {kb pb qb:Nat} {F:List Nat} {Q:Co} (hC:Cor w kb pb qb Q) (hF:∀k∈F,k<w.heap.size)
include hC
theorem dsettled:Calls Tryz.prog 146 #[.pointer (some ⟨kb,0,none⟩)] w fun e w'=>e=.returned (.bool (Yu Q))∧w=w':=by
 have h8:=hC.ok.h8
 have hb:=hC.own
 have HB:=Vh hC.buf
 have he:((Q.es.length:Int)==0)=Q.es.isEmpty:=by cases Q.es<;>simp;omega
 have hw:((Q.wt:Int)==0)=(Q.wt==0):=by rw [Bool.eq_iff_iff];simp
 clear hC
 unfold Yu
 generalize Q.es.isEmpty=b1 at he ⊢
 cases b1
 all_goals
  go_enter Tryz.func146,Tryz.ntmps146
  go_wp2_with (go_at_call 135;refine (Qhv HB.out).mono ?_;rintro e w' ⟨rfl,rfl⟩)
  go_ret
  exact ⟨rfl,rfl⟩
include hF
theorem dend (kd:Int):Calls Tryz.prog 110 #[.pointer (some ⟨kb,0,none⟩),.int .i64 kd] w (CoTo w kb pb qb F (Qez Q) [evC Q kd 0 0 0]):=by
 refine (cend hC.ok.h8 hC.own kd).mono ?_
 rintro e w' ⟨be,rfl,hc,hk,hv,hB⟩
 have ok:=hC.oldk.lt
 refine ⟨_,rfl,.one hv (by omega) hB (fun h=>by have:=hF _ h;omega),?_,hc.mono (by simp)⟩
 exact ⟨hk,hC.steps.keep hc (by simp [hC.kp.symm]),hC.buf.keep hc (by simp [hC.kq.symm]),hC.kp,hC.kq,hC.pq,⟨hC.ok.h8,hC.ok.pc,hC.ok.np,hC.ok.pr,hC.ok.wt,hC.ok.id,hC.ok.pos.stop⟩⟩
theorem dnext {v:Value} {l:List Ev} {B:Nat} (hv:EvV w B kb F v l) (hp:Q.pc<2147483648):Calls Tryz.prog 113 #[.pointer (some ⟨kb,0,none⟩),v] w fun e w'=>e=.returned v∧EvV w' B kb F v l∧Cor w' kb pb qb (Yo Q)∧Chg [kb] w w':=by
 have _:=hF
 refine (cnext hC.ok.h8 hC.own v (by omega) (by omega)).mono ?_
 rintro e w' ⟨rfl,hc,hk⟩
 refine ⟨rfl,hv.keep hc (fun be _ h _=>by simpa using h),?_,hc⟩
 exact ⟨hk,hC.steps.keep hc (by simp [hC.kp.symm]),hC.buf.keep hc (by simp [hC.kq.symm]),hC.kp,hC.kq,hC.pq,⟨hC.ok.h8,by show Q.pc+1≤_;omega,hC.ok.np,hC.ok.pr,hC.ok.wt,hC.ok.id,hC.ok.pos.next⟩⟩
theorem Qfm {w2:World} (c2:Chg [] w w2) (x:Ev) (hp:Q.pc<2147483648):Calls Tryz.prog 113 #[.pointer (some ⟨kb,0,none⟩),.slice (some ⟨w2.heap.size,0,none⟩) 1 1] (w2.alloc (.cells (evc x) 48)) (CoTo w kb pb qb F (Yo Q) [x]):=by
 have c3:Chg [] w (w2.alloc (.cells (evc x) 48)):=c2.alloc _
 have hs:=c2.size
 have hk:=hC.oldk.lt
 refine (dnext (hC.keep0 c3) (F:=F) (fun k h=>by have:=hF k h;simp;omega) (v:=.slice (some ⟨w2.heap.size,0,none⟩) 1 1) (l:=[x]) (B:=w.heap.size) (EvV.one (by simp) (by omega) hs (fun h=>by have:=hF _ h;omega)) hp).mono ?_
 rintro e w' ⟨rfl,h1,h2,h3⟩
 exact ⟨_,rfl,h1,h2,(c3.mono (by simp)).trans (h3.mono (by simp))⟩
theorem Qaf (hp:Q.pc<2147483648):Calls Tryz.prog 113 #[.pointer (some ⟨kb,0,none⟩),.slice none 0 0] w (CoTo w kb pb qb F (Yo Q) []):=by
 refine (dnext hC hF (EvV.nil w w.heap.size kb F) hp).mono ?_
 rintro e w' ⟨rfl,h1,h2,h3⟩
 exact ⟨_,rfl,h1,h2,h3.mono (by simp)⟩
theorem dfence (hp:Q.pc<2147483648):Calls Tryz.prog 115 #[.pointer (some ⟨kb,0,none⟩)] w (CoTo w kb pb qb F (if Yu Q then Yo Q else Q) (if Yu Q then [evC Q 7 0 0 0] else [])):=by
 have S:=dsettled hC
 cases hs:Yu Q
 ·rw [hs] at S
  show Calls _ _ _ _ (CoTo w kb pb qb F Q [])
  have HS:=Vh S
  have HC:=Vh hC
  clear S hC hs hF
  go_enter Tryz.func115,Tryz.ntmps115
  go_wp2_with (go_at_call 146;refine HS.out.mono ?_;rintro e w' ⟨rfl,rfl⟩)
  go_ret
  exact ⟨_,rfl,EvV.nil ..,HC.out,Chg.refl _ _⟩
 ·rw [hs] at S
  show Calls _ _ _ _ (CoTo w kb pb qb F (Yo Q) [evC Q 7 0 0 0])
  have HS:=Vh S
  have HC:=Vh hC
  have HF:=Vh hF
  have HP:=Vh hp
  clear S hC hs hF hp
  go_enter Tryz.func115,Tryz.ntmps115
  go_wp2_with (go_at_call 146;refine HS.out.mono ?_;rintro e w' ⟨rfl,rfl⟩)
  refine (Qcv HC.out.own 7 0 0 0).mono ?_
  rintro e w2 ⟨rfl,c2⟩
  have HC2:=Vh c2
  clear c2
  go_wp2_with fail
  refine (Qfm HC.out HF.out HC2.out _ HP.out).mono ?_
  rintro e w4 ⟨v,rfl,hv⟩
  go_wp2_with fail
  go_ret
  exact ⟨_,rfl,hv⟩
theorem djump (i:Ins) (ha:0≤i.a∧i.a<8) (hb:0≤i.b∧i.b<8) (hi:0≤i.im∧i.im≤2147483647) (hp:Q.pc<2147483648):Calls Tryz.prog 112 #[.pointer (some ⟨kb,0,none⟩),.agg (insc i)] w (CoTo w kb pb qb F (if goV i.op (regA Q i.a) (regA Q i.b) then {Q with pc:=i.im.toNat} else Yo Q) []):=by
 obtain ⟨na,hna⟩:∃n:Nat,i.a=(n:Int):=⟨i.a.toNat,by omega⟩
 obtain ⟨nb,hnb⟩:∃n:Nat,i.b=(n:Int):=⟨i.b.toNat,by omega⟩
 have ea:regA Q i.a=regN Q.rg na:=by unfold regA;rw [hna,Int.toNat_natCast]
 have eb:regA Q i.b=regN Q.rg nb:=by unfold regA;rw [hnb,Int.toNat_natCast]
 have la:na<8:=by omega
 have lb:nb<8:=by omega
 have la':(na:Int)<8:=by omega
 have lb':(nb:Int)<8:=by omega
 have h8:=hC.ok.h8
 have hb0:=hC.own
 have ob:=old hb0
 have HC:=Vh hC
 have HF:=Vh hF
 have HP:=Vh hp
 have HI:=Vh hi
 have hx:(w.alloc (.cells (insc i) 68)).heap[w.heap.size]? =some (.cells (insc i) 68 (0,0)):=by simp
 rw [ea,eb]
 have HCH:Chg [] w (w.alloc (.cells (insc i) 68)):=(Chg.refl [] w).alloc _
 have hb1:=HCH.keep hb0 (by simp)
 generalize hw1:w.alloc (.cells (insc i) 68)=w1 at hx hb1 HCH
 generalize hz:w.heap.size=p at hx
 have R1:∀y:Aft w1.heap.size w1,y.w.heap[p]? =some (.cells (insc i) 68 (0,0)):=fun y=>(y.block (old hx).lt).trans hx
 have R2:∀y:Aft w1.heap.size w1,y.w.heap[kb]? =some (.cells (coc Q.id Q.ru Q.rg pb Q.pr.length Q.pc qb Q.wt) 136 (0,0)):=fun y=>(y.block (old hb1).lt).trans hb1
 have HCH':=Vh HCH
 have ob1:=old hb1
 have ox1:=old hx
 have HG:=Vh (fun w=>ggo_any i.op (regN Q.rg na) (regN Q.rg nb) w)
 have him:=wrap_i64_im HI.out
 have hiN:i.im=((i.im.toNat:Nat):Int):=by have:=HI.out;omega
 have HIN:=Vh hiN
 clear hC hF hp hi ha hb ea eb hiN HCH
 cases hg:goV i.op (regN Q.rg na) (regN Q.rg nb)
 ·rw [hg] at HG
  show Calls _ _ _ _ (CoTo w kb pb qb F (Yo Q) [])
  clear hg
  go_enter Tryz.func112,Tryz.ntmps112
  go_wp2_with fail
  refine XP w1.heap.size (by kernel_rfl) (by kernel_rfl) ?_
  repeat (go_big_quiet_step (first |(go_at_call 145;exact Jq (Nat.le_refl _) ((HG.out _).mono fun _ _ h=>⟨h.1,h.2▸Chg.mapW _ _⟩))))
  refine wpQuiet_nil ?_
  rintro _ ⟨y,rfl⟩
  have r2:=R2 y
  have hcy:=HCH'.out.trans (Below.chg y.below (Nat.le_refl _))
  have HCY:=Vh hcy
  clear hcy
  go_wp2_with fail
  refine (Qaf (HC.out.keep0 HCY.out) (F:=F) (fun k h=>by have:=HF.out k h;have:=HCY.out.size;omega) HP.out).mono ?_
  rintro e w4 ⟨v,rfl,h1,h2,h3⟩
  go_wp2_with fail
  go_ret
  exact ⟨_,rfl,evv_mono h1 HCY.out.size,h2,(HCY.out.mono (by simp)).trans h3⟩
 ·rw [hg] at HG
  show Calls _ _ _ _ (CoTo w kb pb qb F {Q with pc:=i.im.toNat} [])
  clear hg
  go_enter Tryz.func112,Tryz.ntmps112
  go_wp2_with fail
  refine XP w1.heap.size (by kernel_rfl) (by kernel_rfl) ?_
  repeat (go_big_quiet_step (first |(go_at_call 145;exact Jq (Nat.le_refl _) ((HG.out _).mono fun _ _ h=>⟨h.1,h.2▸Chg.mapW _ _⟩))))
  refine wpQuiet_nil ?_
  rintro _ ⟨y,rfl⟩
  have r1:=R1 y
  have r2:=R2 y
  have hcy:=HCH'.out.trans (Below.chg y.below (Nat.le_refl _))
  have HCY:=Vh hcy
  clear hcy
  go_wp2_with fail
  go_ret
  refine ⟨_,rfl,EvV.nil ..,?_,(HCY.out.mono (by simp)).setCell kb _ _ (.inl (by simp))⟩
  have hc:=(Chg.refl [kb] y.w).setCell kb 11 (.int .i64 i.im) (.inl (by simp))
  have h2:=HC.out.keep0 HCY.out
  refine ⟨?_,h2.steps.keep hc (by simp [h2.kp.symm]),h2.buf.keep hc (by simp [h2.kq.symm]),h2.kp,h2.kq,h2.pq,⟨h2.ok.h8,?_,h2.ok.np,h2.ok.pr,h2.ok.wt,h2.ok.id,⟨h2.ok.pos.rg,h2.ok.pos.es⟩⟩⟩
  ·rw [heap_setCell,if_pos rfl,r2,Qf,QZ h8]
   show some (Obj.cells (coc Q.id Q.ru Q.rg pb Q.pr.length i.im qb Q.wt) _ _)=some (Obj.cells (coc Q.id Q.ru Q.rg pb Q.pr.length (i.im.toNat:Nat) qb Q.wt) _ _)
   rw [←HIN.out]
  ·show i.im.toNat≤_
   have:=HI.out
   omega
end
end
section
set_option maxRecDepth 100000
attribute [local go_sem ↓] Qv QF Qy QO QE Qs Qk Qh heap_alloc Ql heap_setCell Qc Yq Xu Xg ZP YD XA YC Xz Yi Yh Yd Ye Yf Xh XW XV XU Xj YK YL YJ YG YH YX YT XE YV YW YU YS
attribute [local go_sem] Qb Qa Qd Qi Qe Qg Qf QB Qw QN QL QM Q5 QK QA Qr QD QW QJ Qq QC Qp Qj Qo Qn Yc Xf YB Q8 Xv Xw JT Yg ZZ ZY ZX ZW Yn Ym Yj Yk Yl QG ZQ Xi ZR XT Zc XB YI XC Qad Xa Z9 Z8 Z7 Z6 YP YQ YO YM YN Z3 QY QZ QX QP Qt Zk
attribute [local simp ↓] Qk Qh heap_alloc Ql heap_setCell Qc
attribute [local simp] Qb Qa Qd Qi Qe Qg Qf Qr Qj Qo Qn Q8 QG Zc QY QZ QX QP Qt QD
attribute [local go_sem ↓] Qh
theorem sbE_same {room:Nat} {es:List Se} {e:Se} (h:sbV room es e≠0):sbE room es e=es:=by
 unfold sbV at h
 unfold sbE
 split
 ·rename_i h1
  rw [if_pos h1] at h
  split
  ·rfl
  ·rename_i h2
   rw [if_neg h2] at h
   exact absurd rfl h
 ·rfl
theorem Cor.entries {w w':World} {kb pb qb:Nat} {Q:Co} {es':List Se} (h:Cor w kb pb qb Q) (hc:Chg [qb] w w') (hb:Buf w' qb Q.rm es') (hp:∀e∈es',0≤e.va):Cor w' kb pb qb {Q with es:=es'}:=
 ⟨hc.keep h.own (by simp [h.kq]),h.steps.keep hc (by simp [h.pq]),hb,h.kp,h.kq,h.pq,⟨h.ok.h8,h.ok.pc,h.ok.np,h.ok.pr,h.ok.wt,h.ok.id,⟨h.ok.pos.rg,hp⟩⟩⟩
theorem CoTo.from {w w4:World} {kb pb qb:Nat} {F:List Nat} {Q':Co} {l:List Ev} {e:Ending} {w':World} (hc:Chg [kb,pb,qb] w w4) (h:CoTo w4 kb pb qb F Q' l e w'):CoTo w kb pb qb F Q' l e w':=by
 obtain ⟨v,he,h1,h2,h3⟩:=h
 exact ⟨v,he,evv_mono h1 hc.size,h2,hc.trans h3⟩
section
variable {w:World} {kb pb qb:Nat} {F:List Nat} {Q:Co} (hC:Cor w kb pb qb Q) (hF:∀k∈F,k<w.heap.size)
include hC hF
theorem dput (kd:Int) (x:Se) (hx0:0≤x.va) (hp:Q.pc<2147483648):Calls Tryz.prog 150 #[.pointer (some ⟨kb,0,none⟩),.int .i64 kd,.agg (sec x)] w (CoTo w kb pb qb F (if sbV Q.rm Q.es x=0 then Yo {Q with es:=sbE Q.rm Q.es x} else Q) (if sbV Q.rm Q.es x=0 then [evC Q kd x.li x.wo x.va] else [])):=by
 have h8:=hC.ok.h8
 have hs:(w.alloc (.cells (sec x) 177)).heap[w.heap.size]? =some (.cells (sec x) 177 (0,0)):=by simp
 have HCH:Chg [] w (w.alloc (.cells (sec x) 177)):=(Chg.refl [] w).alloc _
 have HC1:=Vh (hC.keep0 HCH)
 have hb1:=HC1.out.own
 have HF:=Vh hF
 have HP:=Vh hp
 have HX0:=Vh hx0
 have HPE:=Vh (show ∀e∈sbE Q.rm Q.es x,0≤e.va by
  intro e he
  unfold sbE at he
  split at he
  ·split at he
   ·exact hC.ok.pos.es e he
   ·rcases List.mem_append.1 he with h1|h1
    ·exact hC.ok.pos.es e h1
    ·simp only [List.mem_singleton] at h1;subst h1;exact hx0
  ·exact hC.ok.pos.es e he)
 have HN:=Vh (show w.heap.size≠kb∧w.heap.size≠qb from by have h1:=hC.oldk.lt;have h2:=hC.oldq.lt;omega)
 have HKQ:=Vh hC.kq
 have HS:=Vh (fun h=>sbE_same (room:=Q.rm) (es:=Q.es) (e:=x) h)
 have HPU:=Vh (fun (w':World) (h:Chg [] (w.alloc (.cells (sec x) 177)) w')=>spush_ok x (HC1.out.buf.keep h (by simp)))
 have HC0:=Vh HCH
 clear hC hF hp hx0 HCH
 generalize hw1:w.alloc (.cells (sec x) 177)=w1 at *
 generalize hz:w.heap.size=p at *
 generalize sbV Q.rm Q.es x=sv at *
 generalize sbE Q.rm Q.es x=sE at *
 have ok1:=old hb1
 have op1:=old hs
 have n1:¬p=kb:=HN.out.1
 have n2:¬kb=p:=fun e=>HN.out.1 e.symm
 by_cases h0:sv=0
 ·rw [if_pos h0,if_pos h0]
  subst h0
  go_enter Tryz.func150,Tryz.ntmps150
  go_wp2_with fail
  go_region_held3 (fun w'=>w'.heap[kb]? =some (.cells (coc Q.id Q.ru Q.rg pb Q.pr.length Q.pc qb Q.wt) 136 (0,0))∧w'.heap[p]? =some (.cells (sec x) 177 (0,0)))
   (first |exact ⟨hb1,hs⟩|exact ⟨c4.keep hb1 (by simpa using HKQ.out),c4.keep hs (by simpa using HN.out.2)⟩)
   (first
    |(go_at_call 203;refine (HPU.out _ ((Chg.refl [] w1).drew)).mono ?_;rintro e w4 ⟨rfl,c4,b4⟩))
  all_goals
   rename World=>w4
   rename _∧_=>hHeld
   have hb4:=hHeld.1
   have hs4:=hHeld.2
   have HC4:=Vh ((HC1.out.keep0 ((Chg.refl [] w1).drew)).entries c4 b4 HPE.out)
   have HG4:=Vh ((HC0.out.mono (l':=[kb,pb,qb]) (by simp)).trans (((Chg.refl [kb,pb,qb] w1).drew).trans (c4.mono (by simp))))
   have HF4:=Vh (show ∀k∈F,k<w4.heap.size from fun k h=>by have h1:=HF.out k h;have h2:=HG4.out.size;omega)
   have HZ4:=Vh (show Old w4 p from old hs4)
   clear hHeld c4 b4 hs hb1
   go_wp2_with fail
   refine (Qcv hb4 kd x.li x.wo x.va).mono ?_
   rintro e w5 ⟨rfl,c5⟩
   have HC5:=Vh c5
   clear c5
   go_wp2_with fail
   refine (Qfm HC4.out HF4.out HC5.out _ HP.out).mono ?_
   rintro e w6 ⟨v,rfl,hv⟩
   go_wp2_with fail
   go_ret
   exact CoTo.from HG4.out ⟨v,rfl,hv⟩
 ·rw [if_neg h0,if_neg h0]
  have hsv:(sv !=0)=true:=by simpa using h0
  have HES:=Vh (HS.out h0)
  clear h0
  go_enter Tryz.func150,Tryz.ntmps150
  go_wp2_with fail
  go_region_held3 (fun w'=>w'.heap[kb]? =some (.cells (coc Q.id Q.ru Q.rg pb Q.pr.length Q.pc qb Q.wt) 136 (0,0))∧w'.heap[p]? =some (.cells (sec x) 177 (0,0)))
   (first |exact ⟨hb1,hs⟩|exact ⟨c4.keep hb1 (by simpa using HKQ.out),c4.keep hs (by simpa using HN.out.2)⟩)
   (first
    |(go_at_call 203;refine (HPU.out _ ((Chg.refl [] w1).drew)).mono ?_;rintro e w4 ⟨rfl,c4,b4⟩))
  all_goals
   rename World=>w4
   rename _∧_=>hHeld
   have HC4:=Vh ((HC1.out.keep0 ((Chg.refl [] w1).drew)).entries c4 b4 HPE.out)
   have HG4:=Vh ((HC0.out.mono (l':=[kb,pb,qb]) (by simp)).trans (((Chg.refl [kb,pb,qb] w1).drew).trans (c4.mono (by simp))))
   clear hHeld c4 b4 hs hb1
   go_wp2_with fail
   go_ret
   refine ⟨_,rfl,EvV.nil ..,?_,HG4.out⟩
   have:=HC4.out
   rw [HES.out] at this
   exact this
end
end
section
set_option maxRecDepth 100000
attribute [local go_sem ↓] Qv QF Qy QO QE Qs Qk Qh heap_alloc Ql heap_setCell Qc Yq Xu Xg ZP YD XA YC Xz Yi Yh Yd Ye Yf Xh XW XV XU Xj YK YL YJ YG YH YX YT XE YV YW YU YS
attribute [local go_sem] Qb Qa Qd Qi Qe Qg Qf QB Qw QN QL QM Q5 QK QA Qr QD QW QJ Qq QC Qp Qj Qo Qn Yc Xf YB Q8 Xv Xw JT Yg ZZ ZY ZX ZW Yn Ym Yj Yk Yl QG ZQ Xi ZR XT Zc XB YI XC Qad Xa Z9 Z8 Z7 Z6 YP YQ YO YM YN Z3 QY QZ QX QP Qt Zk
attribute [local simp ↓] Qk Qh heap_alloc Ql heap_setCell Qc
attribute [local simp] Qb Qa Qd Qi Qe Qg Qf Qr Qj Qo Qn Q8 QG Zc QY QZ QX QP Qt QD
attribute [local go_sem ↓] Qh ZK Zt Xm Xl
attribute [local go_sem] ZH QH ZJ
theorem chear_nil (m:Ms) (w:World):Calls Tryz.prog 92 #[.pointer none,.agg (msc m)] w fun e w'=>e=.returned (.slice none 0 0)∧Chg [] w w':=by
 go_enter Tryz.func92,Tryz.ntmps92
 go_wp2_with (go_at_call 74;refine (cwaits_nil _).mono ?_;rintro e w' ⟨rfl,rfl⟩)
 go_ret
 exact ⟨rfl,(Chg.refl [] w).alloc _⟩
section
variable {w:World} {kb pb qb:Nat} {F:List Nat} {Q:Co} (hC:Cor w kb pb qb Q)
include hC
theorem dendFlush:Calls Tryz.prog 119 #[.pointer (some ⟨kb,0,none⟩)] w fun e w'=>e=.returned (.tuple #[])∧Cor w' kb pb qb (if Q.wt=0 then {Q with es:=Q.es.tail} else Q)∧Chg [qb] w w':=by
 have h8:=hC.ok.h8
 have hb:=hC.own
 have HC:=Vh hC
 have hw:((Q.wt:Int)==0)=decide (Q.wt=0):=by rw [Bool.eq_iff_iff];simp
 clear hC
 by_cases h0:Q.wt=0
 ·rw [if_pos h0]
  rw [decide_eq_true h0] at hw
  clear h0
  go_enter Tryz.func119,Tryz.ntmps119
  go_wp2_with (go_at_call 153;refine (spop_ok HC.out.buf).mono ?_;rintro e w2 ⟨rfl,c2,b2⟩)
  go_end0
  exact ⟨rfl,HC.out.entries c2 b2 (fun e he=>HC.out.ok.pos.es e (List.mem_of_mem_tail he)),c2⟩
 ·rw [if_neg h0]
  rw [decide_eq_false h0] at hw
  clear h0
  go_enter Tryz.func119,Tryz.ntmps119
  go_wp2_with fail
  go_end0
  exact ⟨rfl,HC.out,Chg.refl _ _⟩
theorem dchanged (i:Ins) (ha:0≤i.a∧i.a<8) (hc:0≤i.c∧i.c<8) (old':Int):Calls Tryz.prog 205 #[.pointer (some ⟨kb,0,none⟩),.agg (insc i),.int .u64 old'] w fun e w'=>e=.returned (.tuple #[.int .u64 (chgV Q i old'),.bool (chgB Q i old')])∧Chg [] w w':=by
 obtain ⟨na,hna⟩:∃n:Nat,i.a=(n:Int):=⟨i.a.toNat,by omega⟩
 obtain ⟨nc,hnc⟩:∃n:Nat,i.c=(n:Int):=⟨i.c.toNat,by omega⟩
 have ea:regA Q i.a=regN Q.rg na:=by unfold regA;rw [hna,Int.toNat_natCast]
 have ec:regA Q i.c=regN Q.rg nc:=by unfold regA;rw [hnc,Int.toNat_natCast]
 have la:na<8:=by omega
 have lc:nc<8:=by omega
 have la':(na:Int)<8:=by omega
 have lc':(nc:Int)<8:=by omega
 unfold chgV chgB
 rw [ea,ec]
 have h8:=hC.ok.h8
 have hb:=hC.own
 have ob:=old hb
 have hx:(w.alloc (.cells (insc i) 68)).heap[w.heap.size]? =some (.cells (insc i) 68 (0,0)):=by simp
 have HCH:Chg [] w (w.alloc (.cells (insc i) 68)):=(Chg.refl [] w).alloc _
 have hb1:=HCH.keep hb (by simp)
 have HC1:=Vh HCH
 clear hC ha hc ea ec HCH
 generalize hw1:w.alloc (.cells (insc i) 68)=w1 at hx hb1 HC1
 generalize hz:w.heap.size=p at hx
 have ob1:=old hb1
 have ox1:=old hx
 by_cases h0:i.op=10
 ·rw [if_pos h0,if_pos h0]
  go_enter Tryz.func205,Tryz.ntmps205
  go_wp2_with fail
  go_quiet (fail)
  go_wp2_with fail
  go_ret2
  exact ⟨rfl,HC1.out.drewN _⟩
 ·rw [if_neg h0,if_neg h0]
  have h10:(i.op==10)=false:=by simpa using h0
  clear h0
  go_enter Tryz.func205,Tryz.ntmps205
  go_wp2_with fail
  go_quiet (fail)
  go_wp2_with fail
  go_ret2
  exact ⟨rfl,HC1.out.drewN _⟩
theorem dhear (hF:∀k∈F,k<w.heap.size) (m:Ms):Calls Tryz.prog 92 #[.pointer (some ⟨kb,0,none⟩),.agg (msc m)] w (CoTo w kb pb qb F (Qdc Q m).1 (Qdc Q m).2):=by
 have h8:=hC.ok.h8
 have hb:=hC.own
 have ob:=old hb
 have hx:(w.alloc (.cells (msc m) 196)).heap[w.heap.size]? =some (.cells (msc m) 196 (0,0)):=by simp
 have HCH:Chg [] w (w.alloc (.cells (msc m) 196)):=(Chg.refl [] w).alloc _
 have HC:=Vh (hC.keep0 HCH)
 have hb1:=HC.out.own
 have HC1:=Vh HCH
 have HF:=Vh hF
 have HWT:=Vh hC.ok.wt
 clear hC HCH hF hb
 generalize hw1:w.alloc (.cells (msc m) 196)=w1 at hx hb1 HC1 HC
 generalize hz:w.heap.size=p at hx HF
 have ob1:=old hb1
 have ox1:=old hx
 have n1:¬p=kb:=by have:=ob.lt;omega
 by_cases h0:Q.wt=0
 ·rw [show Qdc Q m=(Q,[]) by unfold Qdc;rw [if_pos (.inl h0)]]
  have hw:((Q.wt:Int)==0)=true:=by simp [h0]
  clear h0
  go_enter Tryz.func92,Tryz.ntmps92
  go_wp2_with (go_at_call 74;refine (cwaits h8 hb1).mono ?_;rintro e w' ⟨rfl,rfl⟩)
  go_ret
  exact ⟨_,rfl,EvV.nil ..,HC.out,HC1.out.mono (by simp)⟩
 have hw:((Q.wt:Int)==0)=false:=by simp [h0]
 by_cases h1:m.kd=14
 ·rw [show Qdc Q m=({Q with wt:=Q.wt-1},[evC Q 6 m.li 0 0]) by unfold Qdc;rw [if_neg (fun h=>h.elim h0 (fun h=>h h1))]]
  have HW0:=Vh h0
  have hk:(m.kd !=14)=false:=by simp [h1]
  have hwt:(Q.wt:Int)-1=((Q.wt-1:Nat):Int):=by omega
  have HB2:=Vh (show (w1.setCell ⟨kb,13,none⟩ (.int .i64 ((Q.wt-1:Nat):Int))).heap[kb]? =some (.cells (coc Q.id Q.ru Q.rg pb Q.pr.length Q.pc qb ((Q.wt-1:Nat):Int)) 136 (0,0)) by rw [heap_setCell,if_pos rfl,hb1,Qf,QX h8])
  have hr1: -9223372036854775808≤(Q.wt:Int)-1:=by omega
  have hr2:(Q.wt:Int)-1≤9223372036854775807:=by have:=HWT.out;omega
  clear h0 h1
  go_enter Tryz.func92,Tryz.ntmps92
  go_wp2_with (go_at_call 74;refine (cwaits h8 hb1).mono ?_;rintro e w' ⟨rfl,rfl⟩)
  have HZ2:=Vh (show (w1.setCell ⟨kb,13,none⟩ (.int .i64 ((Q.wt-1:Nat):Int))).heap.size=w1.heap.size by simp)
  have hx2:(w1.setCell ⟨kb,13,none⟩ (.int .i64 ((Q.wt-1:Nat):Int))).heap[p]? =some (.cells (msc m) 196 (0,0)):=by rw [heap_setCell,if_neg n1];exact hx
  have HG2:=Vh ((Chg.refl [kb] w1).setCell kb 13 (.int .i64 ((Q.wt-1:Nat):Int)) (.inl (by simp)))
  generalize w1.setCell ⟨kb,13,none⟩ (.int .i64 ((Q.wt-1:Nat):Int))=w2 at HB2 hx2 HG2 HZ2 ⊢
  have HC2:=Vh (show Cor w2 kb pb qb {Q with wt:=Q.wt-1} from ⟨HB2.out,HC.out.steps.keep HG2.out (by simp [HC.out.kp.symm]),HC.out.buf.keep HG2.out (by simp [HC.out.kq.symm]),HC.out.kp,HC.out.kq,HC.out.pq,⟨HC.out.ok.h8,HC.out.ok.pc,HC.out.ok.np,HC.out.ok.pr,by show Q.wt-1≤16;have:=HWT.out;omega,HC.out.ok.id,⟨HC.out.ok.pos.rg,HC.out.ok.pos.es⟩⟩⟩)
  clear hb1 hx ob1 ox1 hwt hr1 hr2
  refine (Qcv HB2.out 6 m.li 0 0).mono ?_
  rintro e w3 ⟨rfl,c3⟩
  have HC3:=Vh c3
  clear c3
  go_wp2_with fail
  go_ret
  have hs:=HC3.out.size
  have hk:=HC2.out.oldk.lt
  have hsz:=HC1.out.size
  have hzz:=HZ2.out
  have c4:Chg [] w2 (w3.alloc (.cells (evc ⟨6,Q.id,m.li,0,0⟩) 48)):=HC3.out.alloc _
  refine ⟨_,rfl,EvV.one (by simp;rfl) (by omega) (by omega) (fun h=>by have:=HF.out _ h;omega),HC2.out.keep0 c4,?_⟩
  exact ((HC1.out.mono (by simp)).trans (HG2.out.mono (by simp))).trans (c4.mono (by simp))
 ·rw [show Qdc Q m=(Q,[]) by unfold Qdc;rw [if_pos (.inr h1)]]
  have hk:(m.kd !=14)=true:=by simp [h1]
  clear h0 h1
  go_enter Tryz.func92,Tryz.ntmps92
  go_wp2_with (go_at_call 74;refine (cwaits h8 hb1).mono ?_;rintro e w' ⟨rfl,rfl⟩)
  go_ret
  exact ⟨_,rfl,EvV.nil ..,HC.out,HC1.out.mono (by simp)⟩
end
end
end Go.Proofs.YtcgjofbkcgedfaaGreatDoor
