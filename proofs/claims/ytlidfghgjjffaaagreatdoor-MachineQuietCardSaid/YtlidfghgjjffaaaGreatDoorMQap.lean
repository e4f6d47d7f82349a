/- Texts of the walk, one behind the other: Coy Coz Mch Mci Qtu Cou. No condition. -/
import Derived.Test.YtlidfghgjjffaaaGreatDoorMQaa
import Derived.Test.YtlidfghgjjffaaaGreatDoorMQan
import Derived.Test.YtlidfghgjjffaaaGreatDoorMQao
namespace Go.Proofs.YtlidfghgjjffaaaGreatDoor
open Go.RowKit
set_option linter.unusedVariables false
set_option maxHeartbeats 1000000
set_option maxRecDepth 100000
attribute [local go_sem ↓] Qv QF Qx QP QG Qs Qk Qh heap_alloc Ql heap_setCell Qc X7 Xl Xd ZF Yj Xs Yi Xr X1 X0 XW XX XY Xe XK XJ XI Xg Yq Yr Yp Ym Yn YC Yy Xv YA YB Yz Yx
attribute [local go_sem] Qb Qa Qe Qi Qd Qg Qf QB Qw QN QL QM Q6 QJ QA Qr QD QX QI Qq QC Qp Qj Qo Qn XV Xb Yh Q5 Xm Xn JC XZ ZU ZT ZS ZR X6 X5 X2 X3 X4 QE ZI Xf ZJ XH Q8 Xt Yo Xu JP Z3 Z2 Z1 Z0 ZZ Yv Yw Yu Ys Yt ZY QS QT QR QK Qt Zk
attribute [local simp ↓] Qk Qh heap_alloc Ql heap_setCell Qc
attribute [local simp] Qb Qa Qe Qi Qd Qg Qf Qr Qj Qo Qn Q5 QE Q8 QS QT QR QK Qt QD
attribute [local go_sem ↓] Qh
section
section
variable {W w:World} {c:Cg} {sy n:Nat} {F:List Nat} {S:Mst} {cur:Nat→List Int} {kb pb qb:Nat} {Q:Co} (h:CS W w c sy F S kb pb qb Q)
include h
theorem xexec_off (hru:Q.ru=false) (s:Nat):Calls Tryz.prog 78 #[.pointer (some ⟨kb,0,none⟩),.pointer (some ⟨s,0,none⟩)] w (CSTo W w c sy F kb pb qb S Q []):=by
 have RU:=Qa7 h.co.own
 rw [hru] at RU
 have HRU:=Vh RU
 have H:=Vh h
 clear h hru RU
 go_enter Tryz.func78,Tryz.ntmps78
 try dsimp only [List.append]
 go_wp2_with (go_at_call 63;refine HRU.out.mono ?_;rintro e w' ⟨rfl,rfl⟩)
 go_ret
 exact ⟨_,F,rfl,EvV.nil ..,H.out,Chg.refl _ _,fun k hk=>.inl hk⟩
theorem xexec_end (hru:Q.ru=true) (hx:Q.pr.length≤Q.pc) (s:Nat):Calls Tryz.prog 78 #[.pointer (some ⟨kb,0,none⟩),.pointer (some ⟨s,0,none⟩)] w (CSTo W w c sy F kb pb qb S (Qfc Q) [evC Q 10 0 0 0]):=by
 have RU:=Qa7 h.co.own
 rw [hru] at RU
 have HRU:=Vh RU
 have HD:=Vh (dhere_none h.co hx)
 have H:=Vh h
 have ED:=Vh (fun (w':World) (h':CS W w' c sy F S kb pb qb Q) (kd:Int)=>(dend h'.co h'.old kd).mono fun e w' hd=>h'.ofCo hd)
 clear h hru RU hx
 go_enter Tryz.func78,Tryz.ntmps78
 try dsimp only [List.append]
 go_wp2_with (first |(go_at_call 63;refine HRU.out.mono ?_;rintro e w' ⟨rfl,rfl⟩)|(go_at_call 100;refine HD.out.mono ?_;rintro e w1 ⟨rfl,hc1⟩;have C1:=Vh hc1;clear hc1))
 have C2:Chg [] w (w1.alloc (.cells (insc insZ) 65)):=C1.out.alloc _
 refine (ED.out _ (H.out.keep0 C2) 10).mono ?_
 rintro e w4 ⟨v,F',rfl,hd⟩
 go_wp2_with fail
 go_ret
 exact CSTo.from (C2.mono (by simp)) (fun k hk=>.inl hk) ⟨v,F',rfl,hd⟩
theorem ebuffer:Calls Tryz.prog 64 #[.pointer (some ⟨kb,0,none⟩)] w fun e w'=>∃b,e=.returned (.slice (some ⟨b,0,none⟩) Q.es.length Q.es.length)∧w.heap.size≤b∧Chg [] w w'∧w'.heap[b]? =some (.cells (sq Se.enc Q.es []) 165 (0,0)):=by
 have h8:=h.co.ok.h8
 have hb:=h.co.own
 have HA:=Vh (sall_ok h.co.buf)
 clear h
 generalize Q.es=es at *
 go_enter Tryz.func64,Tryz.ntmps64
 go_wp2_with (go_at_call 92;refine HA.out.mono ?_;rintro e w2 ⟨b,rfl,hk,hc,hv⟩;have HK:=Vh hk;have HC:=Vh hc;have HV:=Vh hv;clear hk hc hv)
 go_ret
 exact ⟨b,rfl,HK.out,HC.out,HV.out⟩
variable (hI:Inv c n S cur) (hn:n≤1000000000) (hR:Roomy c S) (hT:Tab W)
include hI hn hR hT
theorem edrain:Calls Tryz.prog 79 #[.pointer (some ⟨kb,0,none⟩),.pointer (some ⟨sy,0,none⟩)] w (CSTo W w c sy F kb pb qb (JZ c S Q).S (JZ c S Q).Q (JZ c S Q).ev):=by
 have h8:=h.co.ok.h8
 have hb:=h.co.own
 have HH:=Vh (shead_ok h.co.buf)
 have H:=Vh h
 unfold JZ
 cases hes:Q.es with
 |nil=>
  rw [hes] at HH
  show Calls _ _ _ _ (CSTo W w c sy F kb pb qb S Q [])
  clear h hI hn hR hT hes
  go_enter Tryz.func79,Tryz.ntmps79
  try dsimp only [List.append]
  go_wp2_with (go_at_call 108;refine HH.out.mono ?_;rintro e w1 ⟨rfl,hc⟩;have C1:=Vh hc;clear hc)
  go_ret
  have C2:Chg [] w (w1.alloc (.cells (sec (hdE [])) 165)):=C1.out.alloc _
  exact ⟨_,F,rfl,EvV.nil ..,H.out.keep0 C2,C2.mono (by simp),fun k hk=>.inl hk⟩
 |cons x rest=>
  rw [hes,show hdE (x::rest)=x from rfl,show hdB (x::rest)=true from rfl] at HH
  have ST:=Vh (fun (w':World) (h':CS W w' c sy F S kb pb qb Q)=>estore h' hI hn hR hT hes)
  have SN:=Vh (fun (w':World) (h':CS W w' c sy F S kb pb qb Q)=>esend h' hI hn hR hT hes)
  have EF:=Vh (fun (w':World) (h':CS W w' c sy F S kb pb qb Q)=>dendFlush h'.co)
  rw [hes,show (x::rest).tail=rest from rfl] at EF
  dsimp only
  clear h hI hn hR hT hes
  by_cases h9:x.kd=9
  ·rw [if_pos h9]
   have k9:(x.kd==9)=true:=by simp [h9]
   have e1:∀(D1 D2:Qgu),True:=fun _ _=>trivial
   have eS:(if (storeM c S Q.id x.li x.wo x.va).2.hit=true then (⟨(storeM c S Q.id x.li x.wo x.va).1,{Q with es:=rest},[evC Q 3 x.li x.wo x.va]⟩:Qgu) else ⟨(storeM c S Q.id x.li x.wo x.va).1,Q,[]⟩)=⟨(storeM c S Q.id x.li x.wo x.va).1,if (storeM c S Q.id x.li x.wo x.va).2.hit=true then {Q with es:=rest} else Q,if (storeM c S Q.id x.li x.wo x.va).2.hit=true then [evC Q 3 x.li x.wo x.va] else []⟩:=by split<;>rfl
   rw [eS]
   dsimp only
   generalize (if (storeM c S Q.id x.li x.wo x.va).2.hit=true then {Q with es:=rest} else Q)=Q2 at *
   generalize (if (storeM c S Q.id x.li x.wo x.va).2.hit=true then [evC Q 3 x.li x.wo x.va] else [])=l2 at *
   clear h9 eS e1
   go_enter Tryz.func79,Tryz.ntmps79
   try dsimp only [List.append]
   go_wp2_with (go_at_call 108;refine HH.out.mono ?_;rintro e w1 ⟨rfl,hc⟩;have C1:=Vh hc;clear hc)
   have C2:Chg [] w (w1.alloc (.cells (sec x) 165)):=C1.out.alloc _
   refine (ST.out _ (H.out.keep0 C2)).mono ?_
   rintro e w4 ⟨v,F',rfl,hd⟩
   go_wp2_with fail
   go_ret
   exact CSTo.from (C2.mono (by simp)) (fun k hk=>.inl hk) ⟨v,F',rfl,hd⟩
  ·rw [if_neg h9]
   have k9:(x.kd==9)=false:=by simp [h9]
   clear h9
   cases hsn:x.sn
   ·rw [if_neg (by decide)]
    have eS:(if 16≤Q.wt then (⟨S,Q,[]⟩:Qgu) else if (flushM c S Q.id x.li (JS x.kd)).2.e=0 then ⟨(flushM c S Q.id x.li (JS x.kd)).1,{Q with es:=(if x.kd=14 then sent x::rest else rest),wt:=Q.wt+1},[evC Q 13 x.li 0 0]⟩ else ⟨(flushM c S Q.id x.li (JS x.kd)).1,Q,[]⟩)=⟨if 16≤Q.wt then S else (flushM c S Q.id x.li (JS x.kd)).1,if 16≤Q.wt then Q else if (flushM c S Q.id x.li (JS x.kd)).2.e=0 then {Q with es:=(if x.kd=14 then sent x::rest else rest),wt:=Q.wt+1} else Q,if 16≤Q.wt then [] else if (flushM c S Q.id x.li (JS x.kd)).2.e=0 then [evC Q 13 x.li 0 0] else []⟩:=by
     split
     ·rfl
     ·split<;>rfl
    rw [eS]
    dsimp only
    generalize (if 16≤Q.wt then S else (flushM c S Q.id x.li (JS x.kd)).1)=S2 at *
    generalize (if 16≤Q.wt then Q else if (flushM c S Q.id x.li (JS x.kd)).2.e=0 then {Q with es:=(if x.kd=14 then sent x::rest else rest),wt:=Q.wt+1} else Q)=Q2 at *
    generalize (if 16≤Q.wt then [] else if (flushM c S Q.id x.li (JS x.kd)).2.e=0 then [evC Q 13 x.li 0 0] else [])=l2 at *
    clear eS
    go_enter Tryz.func79,Tryz.ntmps79
    try dsimp only [List.append]
    go_wp2_with (go_at_call 108;refine HH.out.mono ?_;rintro e w1 ⟨rfl,hc⟩;have C1:=Vh hc;clear hc)
    have C2:Chg [] w (w1.alloc (.cells (sec x) 165)):=C1.out.alloc _
    refine (SN.out _ (H.out.keep0 C2)).mono ?_
    rintro e w4 ⟨v,F',rfl,hd⟩
    go_wp2_with fail
    go_ret
    exact CSTo.from (C2.mono (by simp)) (fun k hk=>.inl hk) ⟨v,F',rfl,hd⟩
   ·rw [if_pos rfl]
    have eS:(if Q.wt=0 then (⟨S,{Q with es:=rest},[]⟩:Qgu) else ⟨S,Q,[]⟩)=⟨S,if Q.wt=0 then {Q with es:=rest} else Q,[]⟩:=by split<;>rfl
    rw [eS]
    dsimp only
    generalize (if Q.wt=0 then {Q with es:=rest} else Q)=Q2 at *
    clear eS
    go_enter Tryz.func79,Tryz.ntmps79
    try dsimp only [List.append]
    go_wp2_with (go_at_call 108;refine HH.out.mono ?_;rintro e w1 ⟨rfl,hc⟩;have C1:=Vh hc;clear hc)
    have C2:Chg [] w (w1.alloc (.cells (sec x) 165)):=C1.out.alloc _
    refine (EF.out _ (H.out.keep0 C2)).mono ?_
    rintro e w4 ⟨rfl,hC,hc⟩
    have HC:=Vh hC
    have HCH:=Vh hc
    clear hC hc
    go_wp2_with fail
    go_ret
    exact CSTo.from (C2.mono (by simp)) (fun k hk=>.inl hk) ⟨_,F,rfl,EvV.nil ..,(H.out.keep0 C2).core (HCH.out.mono (by simp)) HC.out,HCH.out.mono (by simp),fun k hk=>.inl hk⟩
end
end
section
def stcZ:Stc:=⟨0,0,0,0,insZ,false⟩
def stcV:Value:=.agg (Stc.enc stcZ).toArray
theorem stcV_size:stcV.cells.size=10:=rfl
theorem stc_info:(Tryz.prog.info? 180).map (fun i=>(i.zero,i.size,i.bytes))=some (some stcV,10,72):=by kernel_rfl
theorem made_stc (n:Nat):madeCells stcV.cells (n*10)=sq Stc.enc (List.replicate n stcZ) []:=by
 apply Array.ext
 ·rw [JD Stc.len]
  simp [madeCells]
 ·intro k h1 h2
  have hk:k<n*10:=by simpa [madeCells] using h1
  obtain ⟨i,j,hj,rfl⟩:∃i j,j<10∧k=i*10+j:=⟨k / 10,k % 10,Nat.mod_lt _ (by omega),by omega⟩
  have hi:i<n:=by omega
  have h3:=JU (enc:=Stc.enc) Stc.len (xs:=List.replicate n stcZ) (i:=i) (a:=stcZ) (by simp [hi]) [] j hj
  rw [Array.getElem?_eq_getElem h2] at h3
  have h5:j=0∨j=1∨j=2∨j=3∨j=4∨j=5∨j=6∨j=7∨j=8∨j=9:=by omega
  have h6:(i*10+j) % 10=j:=by omega
  have h7:stcV.cells.size=10:=stcV_size
  apply Option.some.inj
  rw [h3]
  simp only [madeCells,Array.getElem_map,Array.getElem_range,h7,h6]
  rcases h5 with rfl|rfl|rfl|rfl|rfl|rfl|rfl|rfl|rfl|rfl<;>rfl
theorem run_make_stc (w:World) (n:Nat) (hn:n≤5000):mkR Tryz.prog 121 (.int .i64 n) (.int .i64 n) w=.ok (.slice (some ⟨w.heap.size,0,none⟩) n n) (w.alloc (.cells (sq Stc.enc (List.replicate n stcZ) []) 180)):=by
 obtain ⟨i0,hi0,hz0,hz1,hz2⟩:=info_parts stc_info
 have:=run_make (P:=Tryz.prog) w 121 180 i0 _ Tryz.underlying121 hi0 hz0 .i64 .i64 n n (by omega) (by omega) (by rw [hz2];omega) (by omega)
 simp only [Int.toNat_natCast,hz1] at this
 rw [←made_stc]
 exact this
def Qe1 (us:List Int):List (Int×Bool):=us.map fun u=>(u,false)
def Qin (us:List Int) (k:Nat):List Stc:=(Qe1 (us.take k)).map stp++List.replicate (us.length-k) stcZ
theorem fillS_zero (us:List Int):Qin us 0=List.replicate us.length stcZ:=by simp [Qin,Qe1]
theorem fillS_all (us:List Int):Qin us us.length=(Qe1 us).map stp:=by simp [Qin]
theorem fillS_at {us:List Int} {k:Nat} (hk:k<us.length):(Qin us k)[k]? =some stcZ:=by
 unfold Qin
 have e1:((Qe1 (us.take k)).map stp).length=k:=by simp [Qe1];omega
 rw [List.getElem?_append_right (by omega),e1,Nat.sub_self,List.getElem?_replicate,if_pos (by omega)]
theorem fillS_succ {us:List Int} {k:Nat} {u:Int} (h:us[k]? =some u):(Qin us k).set k {stcZ with u:=u}=Qin us (k+1):=by
 obtain ⟨hk,rfl⟩:=Vg h
 unfold Qin
 obtain ⟨m,hm⟩:∃m,us.length-k=m+1:=⟨us.length-k-1,by omega⟩
 have e1:((Qe1 (us.take k)).map stp).length=k:=by simp [Qe1];omega
 rw [List.set_append_right _ _ (by omega),e1,Nat.sub_self,hm,show us.length-(k+1)=m by omega,List.replicate_succ,List.set_cons_zero,List.take_succ_eq_append_getElem hk]
 unfold Qe1
 rw [List.map_append,List.map_append,List.append_assoc]
 rfl
theorem csteps {w:World} {A:Option Addr} {n cap:Nat} {us:List Int} (hs:Sl w 1 A n (us.map (Value.int .u64))) (hn:us.length=n) (h5:n≤5000):Calls Tryz.prog 47 #[.slice A n cap] w fun e w'=>∃b,e=.returned (.slice (some ⟨b,0,none⟩) n n)∧w.heap.size≤b∧Chg [] w w'∧Sts w' b ((Qe1 us).map stp):=by
 subst hn
 have hmk:=run_make_stc w us.length h5
 have c1:=(Chg.refl [] w).alloc (.cells (sq Stc.enc (List.replicate us.length stcZ) []) 180)
 have hb1:(w.alloc (.cells (sq Stc.enc (List.replicate us.length stcZ) []) 180)).heap[w.heap.size]? =some (.cells (sq Stc.enc (List.replicate us.length stcZ) []) 180 (0,0)):=by simp
 generalize w.alloc (.cells (sq Stc.enc (List.replicate us.length stcZ) []) 180)=w1 at hmk c1 hb1
 have HB1:=Vh hb1
 have HC1:=Vh c1
 have HS:=Vh hs
 have HL:=Vh h5
 have hl5:(us.length:Int)≤5000:=by omega
 clear hb1 c1 hs h5
 go_enter Tryz.func47,Tryz.ntmps47
 go_wp2_with fail
 generalize hp:w.heap.size=p at HB1
 have HP:=Vh hp
 clear hp
 go_loopw [4,5,11] (fun _ _ i wr=>∃k:Nat,k≤us.length∧i=.int .i64 k∧Chg [p] w1 wr∧wr.heap[p]? =some (.cells (sq Stc.enc (Qin us k) []) 180 (0,0))) (fun _ _ i _=>us.length-(intOf i).toNat)
 case atStart=>exact ⟨0,by omega,rfl,Chg.refl _ _,by rw [fillS_zero];exact HB1.out⟩
 case round=>
  obtain ⟨k,hk,rfl,hc,hb⟩:=hrel
  have HC:=Vh hc
  by_cases hlt:k<us.length
  ·obtain ⟨u,hu⟩:∃u,us[k]? =some u:=⟨us[k],List.getElem?_eq_getElem hlt⟩
   have HU:=Vh hu
   have HLT:=Vh hlt
   have g1:(k:Int)<(us.length:Int):=by omega
   have g0:(0:Int)≤(k:Int):=by omega
   obtain ⟨b0,o0,hA⟩:=HS.out.addr (by omega)
   subst hA
   obtain ⟨cA,tA,fA,hA,hcell⟩:=HS.out.cell hlt
   have hA1:=HC1.out.keep hA (by simp)
   have HNE:=Vh (show b0≠p from by have:=Z6 hA;have:=HP.out;omega)
   have hAr:=hc.keep hA1 (by simpa using HNE.out)
   rw [List.getElem?_map,hu] at hcell
   simp only [Option.map_some] at hcell
   have hset:=Qb6 Stc.len {stcZ with u:=u} (fillS_at hlt) [] 0 (.int .u64 u) (by omega) rfl 180 (0,0)
   rw [fillS_succ hu] at hset
   have hz:(sq Stc.enc (Qin us k) [])[k*10]? =some (.int .u64 0):=JU Stc.len (fillS_at hlt) [] 0 (by omega)
   rw [Nat.add_zero] at hset
   have HSET:=Vh hset
   have HB:=Vh hb
   have op:=old hb
   have oA:=old hAr
   clear hset hc hlt hu hA hA1
   go_wp2_with fail
   refine ⟨⟨k+1,by have:=HLT.out;omega,by go_num,HC.out.setCell p _ _ (.inl (by simp)),?_⟩,?_⟩
   ·rw [heap_setCell,if_pos rfl,HB.out,HSET.out]
   ·have:=HLT.out
    simp [intOf]
    omega
  ·have:k=us.length:=by omega
   subst this
   go_wp2_with fail
   go_ret
   rw [fillS_all] at hb
   exact ⟨p,rfl,by have:=HP.out;omega,HC1.out.trans' HC.out (by have:=HP.out;simp;omega),hb⟩
def co0 (id:Int) (room:Nat) (us:List Int):Co:=⟨id,true,[0,0,0,0,0,0,0,0],Qe1 us,0,room,[],0⟩
theorem co0_ok {id:Int} {room:Nat} {us:List Int} (hi:0≤id∧id<8) (hn:us.length≤4096) (hu:∀u∈us,0≤u∧u<18446744073709551616):CoOk (co0 id room us):=by
 refine ⟨rfl,by show 0≤_;omega,by show (Qe1 us).length≤_;simp [Qe1];omega,?_,by show 0≤16;omega,hi,⟨?_,?_⟩⟩
 ·intro x hx
  simp only [co0,Qe1,List.mem_map] at hx
  obtain ⟨u,h,rfl⟩:=hx
  exact hu u h
 ·intro x hx
  simp only [co0,List.mem_cons,Vn,or_false] at hx
  rcases hx with rfl|rfl|rfl|rfl|rfl|rfl|rfl|rfl<;>exact Int.le_refl _
 ·intro e he
  cases he
theorem coc_zero (w:World):(zeroValue 124).run Tryz.prog w=.ok (.agg #[.int .i64 0,.bool false,.int .u64 0,.int .u64 0,.int .u64 0,.int .u64 0,.int .u64 0,.int .u64 0,.int .u64 0,.int .u64 0,.slice none 0 0,.int .i64 0,.pointer none,.int .i64 0]) w:=by kernel_rfl
theorem cnew {w:World} {A:Option Addr} {n cap:Nat} {us:List Int} (id:Int) (room:Nat) (hs:Sl w 1 A n (us.map (Value.int .u64))) (hn:us.length=n) (h5:n≤4096) (hu:∀u∈us,0≤u∧u<18446744073709551616) (hi:0≤id∧id<8) (h1:1≤room) (h2:room≤16):
 Calls Tryz.prog 26 #[.int .i64 id,.int .i64 room,.slice A n cap] w fun e w'=>∃kb pb qb,e=.returned (.tuple #[.pointer (some ⟨kb,0,none⟩),.int .i64 0])∧w.heap.size≤kb∧w.heap.size≤pb∧w.heap.size≤qb∧Chg [] w w'∧Cor w' kb pb qb (co0 id room us):=by
 have hz:=coc_zero
 have hl5:(n:Int)≤4096:=by omega
 have hi1:=hi.1
 have hi2:=hi.2
 have HS:=Vh hs
 have HN:=Vh hn
 have HI:=Vh (co0_ok (room:=room) hi (by omega) hu)
 have HB:=Vh (snew_buf room w h1 h2)
 have H5:=Vh h5
 clear hs hn hi h5 hu h1 h2
 go_enter Tryz.func26,Tryz.ntmps26
 try dsimp only [List.append]
 go_wp2_with fail
 refine HB.out.mono ?_
 rintro e w1 ⟨qb,rfl,hq,hc,hb⟩
 have HQ:=Vh hq
 have HC1:=Vh hc
 have HB1:=Vh hb
 clear hq hc hb
 go_wp2_with fail
 refine (csteps (HS.out.chg HC1.out (fun _ _=>by simp)) HN.out (by have:=H5.out;omega)).mono ?_
 rintro e w2 ⟨pb,rfl,hp,hc,hst⟩
 have HP:=Vh hp
 have HC2:=Vh hc
 have HST:=Vh hst
 clear hp hc hst
 go_wp2_with fail
 go_ret2
 have hs1:=HC1.out.size
 have hs2:=HC2.out.size
 have hq2:=HB1.out.oldq.lt
 have hp2:=(old HST.out).lt
 have hq:=HQ.out
 have hp:=HP.out
 have e0:(co0 id room us).pr.length=n:=by show (Qe1 us).length=n;simp [Qe1,HN.out]
 generalize hC:(#[.int .i64 id,.bool true,.int .u64 0,.int .u64 0,.int .u64 0,.int .u64 0,.int .u64 0,.int .u64 0,.int .u64 0,.int .u64 0,.slice (some ⟨pb,0,none⟩) n n,.int .i64 0,.pointer (some ⟨qb,0,none⟩),.int .i64 0]:Array Value)=C
 have hC':C=coc id true [0,0,0,0,0,0,0,0] pb n 0 qb 0:=by rw [←hC];simp [coc]
 have cA:Chg [] w2 (w2.alloc (.cells C 124)):=(Chg.refl [] w2).alloc _
 refine ⟨w2.heap.size,pb,qb,rfl,by omega,by omega,by omega,(HC1.out.trans HC2.out).trans cA,⟨?_,HST.out.keep cA (by simp),(HB1.out.keep HC2.out (by simp)).keep cA (by simp),by omega,by omega,by omega,HI.out⟩⟩
 rw [e0]
 simp [hC',co0]
end
end Go.Proofs.YtlidfghgjjffaaaGreatDoor
namespace Go.Proofs.YtlidfghgjjffaaaGreatDoor
open Go.RowKit
set_option linter.unusedVariables false
set_option maxHeartbeats 1000000
section
set_option linter.unusedSectionVars false
structure Mac where
 S:Mst
 cs:List Co
 rc:List Int
 fa:Nat
def Qep (M:Mac) (k:Int):Option Co:=if inB k M.cs.length=true then M.cs[k.toNat]? else none
def Mac.sys (M:Mac) (S:Mst):Mac:={M with S:=S}
def Mac.core (M:Mac) (k:Int) (S:Mst) (Q:Co):Mac:={M with S:=S,cs:=M.cs.set k.toNat Q}
def evPush (li:Int):Ev:=⟨5,0,li,0,0⟩
def evFail:Ev:=⟨11,0,0,0,0⟩
def execA (c:Cg) (M:Mac) (k:Int):Mac×List Ev:=
 match Qep M k with
 |none=>(M,[])
 |some Q=>(M.core k (Qb2 c M.S Q).S (Qb2 c M.S Q).Q,(Qb2 c M.S Q).ev)
def Qfw (c:Cg) (M:Mac) (k:Int):Mac×List Ev:=
 match Qep M k with
 |none=>(M,[])
 |some Q=>(M.core k (JZ c M.S Q).S (JZ c M.S Q).Q,(JZ c M.S Q).ev)
def hearA (c:Cg) (M:Mac) (k:Int):Mac×List Ev:=
 if (hearM c M.S k).2.e=0 then
  match Qep M k with
  |none=>(M.sys (hearM c M.S k).1,[])
  |some Q=>(M.core k (hearM c M.S k).1 (Qdh Q (hearM c M.S k).2.m).1,(Qdh Q (hearM c M.S k).2.m).2)
 else (M.sys (hearM c M.S k).1,[])
def pushA (c:Cg) (M:Mac) (li:Int):Mac×List Ev:=(M.sys (pushM c M.S li).1,if (pushM c M.S li).2.e=0 then [evPush li] else [])
def newerB (c:Cg) (S:Mst) (li:Int):Bool:=if inB li c.li=true then (match S.en[li.toNat]? with
 |none=>false
 |some e=>e.di) else false
def dropMA (c:Cg) (M:Mac) (li:Int):Mac×List Ev:=(M.sys (dropM c M.S li).1,if (dropM c M.S li).2.e=0∧newerB c M.S li=true then [evPush li] else [])
def Qiv (c:Cg) (rc:List Int) (k:Nat):Co:=if k=0 then co0 0 c.st rc else Qfc (co0 k c.st [])
def failA (c:Cg) (M:Mac):Mac×List Ev:=(⟨failM c M.S,(List.range c.co).map (Qiv c M.rc),M.rc,M.fa+1⟩,[evFail])
def doA (c:Cg) (M:Mac) (kd co li:Int):Mac×List Ev:=
 if kd=1 then execA c M co else if kd=2 then Qfw c M co else if kd=3 then (M.sys (upM c M.S co).1,[]) else if kd=4 then (M.sys (answerM c M.S co).1,[])
 else if kd=5 then hearA c M co else if kd=6 then pushA c M li else if kd=7 then (M.sys (evictM c M.S co li).1,[]) else if kd=8 then dropMA c M li
 else if kd=9 then (M.sys (drainM c M.S li).1,[]) else if kd=10 then failA c M else (M,[])
structure MI (c:Cg) (n:Nat) (M:Mac) (cur:Nat→List Int):Prop where
 inv:Inv c n M.S cur
 nn:NN cur
 mn:MN M.S
 len:M.cs.length=c.co
 co:∀(j:Nat) (Q:Co),M.cs[j]? =some Q→Q.id=(j:Int)∧PosC Q∧Q.rm=c.st∧Q.wt=Fl M.S j∧Q.wt≤16∧Q.es.length≤c.st
 rc:M.rc.length≤4096∧∀u∈M.rc,0≤u∧u<18446744073709551616
 fa:M.fa≤n
section
variable {c:Cg} {n:Nat} {S:Mst} {cur:Nat→List Int}
theorem fl_exec (h:Inv c n S cur) (Q:Co) (j:Nat):Fl (Qb2 c S Q).S j=Fl S j:=by
 have hl:∀a li wo (Q:Co),Fl (Qgg c S Q a li wo).S j=Fl S j:=by
  intro a li wo Q
  unfold Qgg
  split
  ·rfl
  ·split<;>exact fl_load h ..
 have hc:∀(Q:Co) (i:Ins) li wo,Fl (Qa9 c S Q i li wo).S j=Fl S j:=by
  intro Q i li wo
  have h1:=h.reachM Q.id li
  have h2:=h1.loadM Q.id li wo
  have e1:=fl_reach h Q.id li j
  have e2:=(fl_load h1 Q.id li wo j).trans e1
  unfold Qa9
  split
  ·split
   ·split
    ·exact (fl_store h2 ..).trans e2
    ·exact e2
   ·exact e1
  ·rfl
 have hp:∀(Q:Co) kd e,(putC S Q kd e).S=S:=by intro Q kd e;unfold putC;split<;>rfl
 have ha:∀(Q:Co) (i:Ins),Fl (Xw c S Q i).S j=Fl S j:=by
  intro Q i
  unfold Xw
  split
  ·split
   ·exact hl ..
   ·split
    ·rw [hp]
    ·split
     ·exact hc ..
     ·rw [hp]
  ·rfl
 have hi:∀(Q:Co) (i:Ins),Fl (insC c S Q i).S j=Fl S j:=by
  intro Q i
  unfold insC
  split
  ·rfl
  split
  ·rfl
  split
  ·rfl
  split
  ·rfl
  split
  ·rfl
  split
  ·rfl
  split
  ·split<;>rfl
  ·exact ha ..
 unfold Qb2
 split
 ·split
  ·rfl
  ·split
   ·exact hi ..
   ·rfl
 ·rfl
theorem mn_exec (h:Inv c n S cur) (hM:MN S) (Q:Co):MN (Qb2 c S Q).S:=by
 have hl:∀a li wo (Q:Co),MN (Qgg c S Q a li wo).S:=by
  intro a li wo Q
  unfold Qgg
  split
  ·exact hM
  ·split<;>exact mn_load h hM ..
 have hc:∀(Q:Co) (i:Ins) li wo,MN (Qa9 c S Q i li wo).S:=by
  intro Q i li wo
  have h1:=h.reachM Q.id li
  have h2:=h1.loadM Q.id li wo
  have e1:=mn_reach h hM Q.id li
  have e2:=mn_load h1 e1 Q.id li wo
  unfold Qa9
  split
  ·split
   ·split
    ·exact mn_store h2 e2 ..
    ·exact e2
   ·exact e1
  ·exact hM
 have hp:∀(Q:Co) kd e,(putC S Q kd e).S=S:=by intro Q kd e;unfold putC;split<;>rfl
 have ha:∀(Q:Co) (i:Ins),MN (Xw c S Q i).S:=by
  intro Q i
  unfold Xw
  split
  ·split
   ·exact hl ..
   ·split
    ·rw [hp];exact hM
    ·split
     ·exact hc ..
     ·rw [hp];exact hM
  ·exact hM
 have hi:∀(Q:Co) (i:Ins),MN (insC c S Q i).S:=by
  intro Q i
  unfold insC
  split
  ·exact hM
  split
  ·exact hM
  split
  ·exact hM
  split
  ·exact hM
  split
  ·exact hM
  split
  ·exact hM
  split
  ·split<;>exact hM
  ·exact ha ..
 unfold Qb2
 split
 ·split
  ·exact hM
  ·split
   ·exact hi ..
   ·exact hM
 ·exact hM
theorem mn_drainC (h:Inv c n S cur) (hM:MN S) (Q:Co):MN (JZ c S Q).S:=by
 unfold JZ
 split
 ·exact hM
 ·split
  ·split<;>exact mn_store h hM ..
  ·split
   ·split<;>exact hM
   ·split
    ·exact hM
    ·split<;>exact mn_flush h hM ..
theorem fl_drainC (h:Inv c n S cur) (Q:Co) {k:Nat} (hk:Q.id=(k:Int)) (j:Nat):Fl (JZ c S Q).S j+Q.wt=Fl S j+(if k=j then (JZ c S Q).Q.wt else Q.wt)∧Q.wt≤(JZ c S Q).Q.wt∧((JZ c S Q).Q.wt≤Q.wt∨(JZ c S Q).Q.wt≤16):=by
 have hsame:∀x:Nat,x=Q.wt→(if k=j then x else Q.wt)=Q.wt:=by intro x hx;rw [hx];split<;>rfl
 unfold JZ
 split
 ·exact ⟨by rw [hsame _ rfl],Nat.le_refl _,.inl (Nat.le_refl _)⟩
 ·rename_i e rest _
  split
  ·have:=fl_store h Q.id e.li e.wo e.va j
   split
   ·exact ⟨by rw [hsame _ rfl];dsimp only;rw [this],Nat.le_refl _,.inl (Nat.le_refl _)⟩
   ·exact ⟨by rw [hsame _ rfl];dsimp only;rw [this],Nat.le_refl _,.inl (Nat.le_refl _)⟩
  ·split
   ·split
    ·exact ⟨by rw [hsame _ rfl],Nat.le_refl _,.inl (Nat.le_refl _)⟩
    ·exact ⟨by rw [hsame _ rfl],Nat.le_refl _,.inl (Nat.le_refl _)⟩
   ·split
    ·exact ⟨by rw [hsame _ rfl],Nat.le_refl _,.inl (Nat.le_refl _)⟩
    ·rename_i h16
     have:=fl_flush h k e.li (JS e.kd) j
     rw [←hk] at this
     split
     ·rename_i h0
      refine ⟨?_,by dsimp only;omega,.inr (by dsimp only;omega)⟩
      dsimp only
      rw [this]
      by_cases hkj:k=j
      ·rw [if_pos hkj,if_pos ⟨h0,hkj⟩];omega
      ·rw [if_neg hkj,if_neg (fun e=>hkj e.2)]
       omega
     ·rename_i h0
      refine ⟨?_,Nat.le_refl _,.inl (Nat.le_refl _)⟩
      rw [hsame _ rfl]
      dsimp only
      rw [this,if_neg (fun e=>h0 e.1)]
      omega
end
section
variable {c:Cg} {n:Nat} {M:Mac} {cur:Nat→List Int} (h:MI c n M cur)
include h
theorem MI.roomy:Roomy c M.S:=by
 refine .ofFl h.inv fun j hj=>?_
 obtain ⟨Q,hQ⟩:∃Q,M.cs[j]? =some Q:=⟨M.cs[j]'(by rw [h.len];exact hj),List.getElem?_eq_getElem _⟩
 obtain ⟨_,_,_,h4,h5,_⟩:=h.co j Q hQ
 omega
theorem MI.fl {j:Nat} (hj:j<c.co):Fl M.S j≤16:=by
 obtain ⟨Q,hQ⟩:∃Q,M.cs[j]? =some Q:=⟨M.cs[j]'(by rw [h.len];exact hj),List.getElem?_eq_getElem _⟩
 obtain ⟨_,_,_,h4,h5,_⟩:=h.co j Q hQ
 omega
theorem MI.roomyLoad (k li wo:Int):Roomy c (loadM c M.S k li wo).1:=by
 refine .ofFl (h.inv.loadM k li wo) fun j hj=>?_
 rw [fl_load h.inv]
 have:=h.fl hj
 omega
theorem MI.mono {m:Nat} (hm:n≤m):MI c m M cur:=⟨h.inv.mono hm,h.nn,h.mn,h.len,h.co,h.rc,Nat.le_trans h.fa hm⟩
theorem MI.sysTo {S':Mst} {m:Nat} (hI:Inv c m S' cur) (hmn:MN S') (hF:∀j,j<c.co→Fl S' j=Fl M.S j) (hm:n≤m):MI c m (M.sys S') cur:=by
 refine ⟨hI,h.nn,hmn,h.len,fun j Q hQ=>?_,h.rc,Nat.le_trans h.fa hm⟩
 obtain ⟨h1,h2,h3,h4,h5,h6⟩:=h.co j Q hQ
 have hj:j<c.co:=by rw [←h.len];exact (Vg hQ).1
 exact ⟨h1,h2,h3,by rw [h4];exact (hF j hj).symm,h5,h6⟩
theorem MI.coreTo {cur':Nat→List Int} {S':Mst} {Q Q':Co} {k m:Nat} (hk:M.cs[k]? =some Q) (hI:Inv c m S' cur') (hN:NN cur') (hmn:MN S') (hid:Q'.id=Q.id) (hp:PosC Q') (hr:Q'.rm=Q.rm) (h16:Q'.wt≤16) (hes:Q'.es.length≤c.st)
 (hF:∀j,j<c.co→Fl S' j+Q.wt=Fl M.S j+(if k=j then Q'.wt else Q.wt)) (hm:n≤m):MI c m (M.core (k:Int) S' Q') cur':=by
 have hkl:=(Vg hk).1
 obtain ⟨k1,k2,k3,k4,k5,k6⟩:=h.co k Q hk
 refine ⟨hI,hN,hmn,by show (M.cs.set _ _).length=_;rw [List.length_set];exact h.len,fun j q hq=>?_,h.rc,Nat.le_trans h.fa hm⟩
 have hq':(M.cs.set k Q')[j]? =some q:=by simpa [Mac.core] using hq
 have hj:j<c.co:=by rw [←h.len];have:=(Vg hq').1;simpa using this
 have hf:=hF j hj
 rw [List.getElem?_set] at hq'
 split at hq'
 ·rename_i e
  subst e
  cases hq'
  rw [if_pos rfl] at hf
  exact ⟨by rw [hid];exact k1,hp,by rw [hr];exact k3,by show _=Fl S' _;omega,h16,hes⟩
 ·rename_i e
  rw [if_neg e] at hf
  obtain ⟨h1,h2,h3,h4,h5,h6⟩:=h.co j q hq'
  exact ⟨h1,h2,h3,by show _=Fl S' _;omega,h5,h6⟩
theorem MI.at {k:Int} {Q:Co} (hk:Qep M k=some Q):∃j:Nat,k=(j:Int)∧j<c.co∧M.cs[j]? =some Q∧Q.id=(j:Int):=by
 unfold Qep at hk
 split at hk
 ·rename_i hb
  have:=XL.1 hb
  refine ⟨k.toNat,by omega,by rw [←h.len];omega,hk,?_⟩
  exact (h.co _ _ hk).1
 ·cases hk
theorem MI.exec (k:Int):∃cur',MI c (n+3) (execA c M k).1 cur':=by
 unfold execA
 cases hc:Qep M k with
 |none=>exact ⟨cur,h.mono (by omega)⟩
 |some Q=>
  obtain ⟨j,rfl,hj,hQ,hid⟩:=h.at hc
  obtain ⟨_,k2,k3,k4,k5,k6⟩:=h.co j Q hQ
  obtain ⟨cur',w⟩:=went_exec h.inv h.nn k2
  have hes:=w.es
  refine ⟨cur',h.coreTo hQ (w.inv.mono (by omega)) w.nn (mn_exec h.inv h.mn Q) w.id w.pos w.rm (by rw [w.wt];exact k5) (by omega) (fun i _=>?_) (by omega)⟩
  rw [fl_exec h.inv,w.wt]
  split<;>rfl
theorem MI.drain (k:Int):∃cur',MI c (n+3) (Qfw c M k).1 cur':=by
 unfold Qfw
 cases hc:Qep M k with
 |none=>exact ⟨cur,h.mono (by omega)⟩
 |some Q=>
  obtain ⟨j,rfl,hj,hQ,hid⟩:=h.at hc
  obtain ⟨_,k2,k3,k4,k5,k6⟩:=h.co j Q hQ
  obtain ⟨cur',w⟩:=left_drain h.inv h.nn k2
  have hes:=w.es
  have hf:=fl_drainC h.inv Q hid
  refine ⟨cur',h.coreTo hQ (w.inv.mono (by omega)) w.nn (mn_drainC h.inv h.mn Q) w.id w.pos w.rm (by have:=(hf 0).2.2;omega) (by omega) (fun i _=>(hf i).1) (by omega)⟩
theorem MI.hear (k:Int):MI c (n+3) (hearA c M k).1 cur:=by
 have hI:=(h.inv.hearM k).1
 unfold hearA
 split
 ·rename_i h0
  cases hc:Qep M k with
  |none=>
   refine h.sysTo (hI.mono (by omega)) (mn_hear h.inv h.mn _) (fun j hj=>?_) (by omega)
   have hno:Xo c M.S k=none:=by
    unfold Qep at hc
    split at hc
    ·rename_i hb
     have:=XL.1 hb
     rw [List.getElem?_eq_getElem (by omega)] at hc
     cases hc
    ·rename_i hb
     unfold Xo
     rw [if_neg]
     rw [h.len] at hb
     exact hb
   unfold hearM
   rw [hno]
  |some Q=>
   obtain ⟨j,rfl,hj,hQ,hid⟩:=h.at hc
   obtain ⟨_,k2,k3,k4,k5,k6⟩:=h.co j Q hQ
   have hq:(Qdh Q (hearM c M.S (j:Int)).2.m).1.id=Q.id∧PosC (Qdh Q (hearM c M.S (j:Int)).2.m).1∧(Qdh Q (hearM c M.S (j:Int)).2.m).1.rm=Q.rm∧(Qdh Q (hearM c M.S (j:Int)).2.m).1.es=Q.es∧
    (Qdh Q (hearM c M.S (j:Int)).2.m).1.wt+(if (hearM c M.S (j:Int)).2.m.kd=14 then 1 else 0)=Q.wt+(if (hearM c M.S (j:Int)).2.m.kd=14∧Q.wt=0 then 1 else 0):=by
    unfold Qdh
    split
    ·rename_i h1
     refine ⟨rfl,k2,rfl,rfl,?_⟩
     dsimp only
     rcases h1 with h1|h1
     ·simp [h1]
     ·simp [h1]
    ·rename_i h1
     simp only [not_or,Classical.not_not] at h1
     refine ⟨rfl,⟨k2.rg,k2.es⟩,rfl,rfl,?_⟩
     dsimp only
     simp [h1.1,h1.2]
     omega
   obtain ⟨q1,q2,q3,q4,q5⟩:=hq
   have hfl:=fun i=>fl_hear h.inv j i
   have hpos:(hearM c M.S (j:Int)).2.m.kd=14→1≤Q.wt:=by
    intro h14
    have:=hfl j
    rw [if_pos ⟨h0,h14,rfl⟩] at this
    omega
   have h5:(Qdh Q (hearM c M.S (j:Int)).2.m).1.wt+(if (hearM c M.S (j:Int)).2.m.kd=14 then 1 else 0)=Q.wt:=by
    rw [q5,if_neg (fun e=>by have:=hpos e.1;omega)];rfl
   refine h.coreTo hQ (hI.mono (by omega)) h.nn (mn_hear h.inv h.mn _) q1 q2 q3 (by omega) (by rw [q4];exact k6) (fun i hi=>?_) (by omega)
   have:=hfl i
   by_cases hji:j=i
   ·subst hji
    rw [if_pos rfl]
    by_cases h14:(hearM c M.S (j:Int)).2.m.kd=14
    ·rw [if_pos ⟨h0,h14,rfl⟩] at this
     rw [if_pos h14] at h5
     omega
    ·rw [if_neg (fun e=>h14 e.2.1)] at this
     rw [if_neg h14] at h5
     omega
   ·rw [if_neg hji]
    rw [if_neg (fun e=>hji e.2.2)] at this
    omega
 ·rename_i h0
  refine h.sysTo (hI.mono (by omega)) (mn_hear h.inv h.mn _) (fun j hj=>?_) (by omega)
  by_cases hk:inB k c.co=true
  ·have:=XL.1 hk
   obtain ⟨k',rfl⟩:∃k':Nat,k=(k':Int):=⟨k.toNat,by omega⟩
   have:=fl_hear h.inv k' j
   rw [if_neg (fun e=>h0 e.1)] at this
   omega
  ·unfold hearM Xo
   rw [if_neg hk]
theorem coreF_ok (hc:c.Ok) {rc:List Int} (hr:rc.length≤4096∧∀u∈rc,0≤u∧u<18446744073709551616) (k:Nat):(Qiv c rc k).id=(k:Int)∧PosC (Qiv c rc k)∧(Qiv c rc k).rm=c.st∧(Qiv c rc k).wt=0∧(Qiv c rc k).es=[]:=by
 have hp:∀id us,PosC (co0 id c.st us):=fun id us=>⟨by intro x hx;simp [co0] at hx;omega,by intro e he;simp [co0] at he⟩
 unfold Qiv
 split
 ·rename_i e;subst e;exact ⟨rfl,hp _ _,rfl,rfl,rfl⟩
 ·exact ⟨rfl,⟨(hp k []).rg,(hp k []).es⟩,rfl,rfl,rfl⟩
theorem MI.fail:∃cur',MI c (n+3) (failA c M).1 cur':=by
 refine ⟨_,⟨h.inv.failM.mono (by omega),?_,?_,by simp [failA],fun j Q hQ=>?_,h.rc,by have:=h.fa;show _+1≤_;omega⟩⟩
 ·intro i x hx
  exact (mn_fail h.inv h.mn).1 x (mem_ln hx)
 ·exact mn_fail h.inv h.mn
 ·have hQ':((List.range c.co).map (Qiv c M.rc))[j]? =some Q:=hQ
  rw [List.getElem?_map] at hQ'
  have hj:j<c.co:=by
   have:=(Vg hQ).1
   simpa [failA] using this
  rw [List.getElem?_range hj] at hQ'
  simp only [Option.map_some,Option.some.injEq] at hQ'
  subst hQ'
  obtain ⟨c1,c2,c3,c4,c5⟩:=coreF_ok h h.inv.ok h.rc j
  refine ⟨c1,c2,c3,?_,by omega,by rw [c5];simp⟩
  rw [c4]
  exact (fl_fresh c _ _ j).symm
theorem MI.step (kd co li:Int):∃cur',MI c (n+3) (doA c M kd co li).1 cur':=by
 unfold doA
 split
 ·exact h.exec co
 split
 ·exact h.drain co
 split
 ·exact ⟨cur,h.sysTo ((h.inv.upM co).1.mono (by omega)) (mn_up h.inv h.nn h.mn co) (fun j hj=>fl_up h.inv co j hj) (by omega)⟩
 split
 ·exact ⟨cur,h.sysTo ((h.inv.answerM co).1.mono (by omega)) (mn_answer h.inv h.nn h.mn co) (fun j hj=>fl_answer h.inv co j hj) (by omega)⟩
 split
 ·exact ⟨cur,h.hear co⟩
 split
 ·exact ⟨cur,h.sysTo ((h.inv.pushM li).mono (by omega)) (mn_push h.inv h.mn li) (fun j hj=>fl_push h.inv li j hj) (by omega)⟩
 split
 ·exact ⟨cur,h.sysTo ((h.inv.evictM co li).mono (by omega)) (mn_evict h.inv h.mn co li) (fun j hj=>fl_evict h.inv co li j) (by omega)⟩
 split
 ·exact ⟨cur,h.sysTo ((h.inv.dropM li).mono (by omega)) (mn_drop h.inv h.mn li) (fun j hj=>fl_drop h.inv li j) (by omega)⟩
 split
 ·exact ⟨cur,h.sysTo ((h.inv.drainM li).mono (by omega)) (mn_drain h.inv h.mn li) (fun j hj=>fl_drain h.inv li j) (by omega)⟩
 split
 ·exact h.fail
 ·exact ⟨cur,h.mono (by omega)⟩
end
end
section
set_option linter.unusedSectionVars false
structure Kp where
 kb:Nat
 pb:Nat
 qb:Nat
def Kp.foot (p:Kp):List Nat:=[p.kb,p.pb,p.qb]
def pke (p:Kp):List Value:=[.pointer (some ⟨p.kb,0,none⟩)]
theorem pke_len (p:Kp):(pke p).length=1:=rfl
theorem pke_one (p:Kp):∀v∈pke p,v.oneCell'=true:=by intro v hv;simp only [pke,List.mem_singleton] at hv;subst hv;rfl
def mcc (sy cb n:Nat) (RA:Option Addr) (rn rc:Nat) (fa:Nat):Array Value:=#[.pointer (some ⟨sy,0,none⟩),.slice (some ⟨cb,0,none⟩) n n,.slice RA rn rc,.int .i64 (fa:Int)]
def Xz (ks:List Kp):List Nat:=(ks.map Kp.foot).flatten
theorem Ja {ks:List Kp} {b:Nat}:b∈Xz ks↔∃(j:Nat) (p:Kp),ks[j]? =some p∧b∈p.foot:=by
 unfold Xz
 simp only [List.mem_flatten,List.mem_map]
 constructor
 ·rintro ⟨l,⟨p,hp,rfl⟩,hb⟩
  obtain ⟨j,hj⟩:=List.getElem?_of_mem hp
  exact ⟨j,p,hj,hb⟩
 ·rintro ⟨j,p,hj,hb⟩
  exact ⟨_,⟨p,List.mem_of_getElem? hj,rfl⟩,hb⟩
theorem Sl.keep0 {w w':World} {size:Nat} {A:Option Addr} {n:Nat} {xs:List Value} {l:List Nat} (h:Sl w size A n xs) (hc:Chg l w w') (hA:0<n→∀a,A=some a→a.block∉l):Sl w' size A n xs:=by
 rcases Nat.eq_zero_or_pos n with h0|h0
 ·exact ⟨h.1,.inl h0⟩
 ·exact h.chg hc (hA h0)
structure MaM (W w:World) (c:Cg) (mp cb sy:Nat) (F:List Nat) (ks:List Kp) (RA:Option Addr) (rcap:Nat) (M:Mac):Prop where
 own:w.heap[mp]? =some (.cells (mcc sy cb c.co RA M.rc.length rcap M.fa) 78 (0,0))
 cors:w.heap[cb]? =some (.cells (sq pke ks []) 66 (0,0))
 kl:ks.length=c.co
 cl:M.cs.length=c.co
 sys:MS W w c sy F M.S
 co:∀(j:Nat) (p:Kp) (Q:Co),ks[j]? =some p→M.cs[j]? =some Q→Cor w p.kb p.pb p.qb Q
 rcs:Sl w 1 RA M.rc.length (M.rc.map (Value.int .u64))
 ne:mp≠cb
 km:∀(j:Nat) (p:Kp),ks[j]? =some p→mp∉p.foot∧cb∉p.foot
 kd:∀(i j:Nat) (p q:Kp),i≠j→ks[i]? =some p→ks[j]? =some q→∀b∈p.foot,b∉q.foot
 dm:mp∉F
 dc:cb∉F
 dk:∀(j:Nat) (p:Kp),ks[j]? =some p→∀b∈p.foot,b∉F
 rd:0<M.rc.length→∀a:Addr,RA=some a→a.block∉mp::cb::(Xz ks++F)
 new:∀b∈mp::cb::Xz ks,W.heap.size≤b
def MaS (W w:World) (c:Cg) (mp:Nat) (RA:Option Addr) (rcap:Nat) (Ft:List Nat) (M:Mac):Prop:=∃(cb sy:Nat) (F:List Nat) (ks:List Kp),Ft=mp::cb::(Xz ks++F)∧MaM W w c mp cb sy F ks RA rcap M
def EvsAt (w:World) (B:Nat) (Ft:List Nat) (v:Value) (l:List Ev):Prop:=∃(A:Option Addr) (cap:Nat),v=.slice A l.length cap∧Sl w 5 A l.length (cat Ev.enc l)∧(0<l.length→∀a:Addr,A=some a→B≤a.block∧a.block∉Ft)
theorem EvsAt.nil (w:World) (B:Nat) (Ft:List Nat):EvsAt w B Ft (.slice none 0 0) []:=⟨none,0,rfl,⟨rfl,.inl rfl⟩,fun h=>by simp at h⟩
def DoTo (W w:World) (c:Cg) (mp:Nat) (RA:Option Addr) (rcap:Nat) (Ft:List Nat) (r:Mac×List Ev) (e:Ending) (w':World):Prop:=
 ∃v Ft',e=.returned v∧EvsAt w' w.heap.size Ft' v r.2∧MaS W w' c mp RA rcap Ft' r.1∧Chg Ft w w'∧∀b∈Ft',b∈Ft∨w.heap.size≤b
section
variable {W w w':World} {c:Cg} {mp cb sy:Nat} {F:List Nat} {ks:List Kp} {RA:Option Addr} {rcap:Nat} {M:Mac} (h:MaM W w c mp cb sy F ks RA rcap M)
include h
theorem MaM.allChg:Chg [] W w:=Mem.chg h.sys
theorem MaM.oldF:∀b∈F,b<w.heap.size:=Mem.old h.sys
theorem MaM.kAt {j:Nat} (hj:j<c.co):∃p Q,ks[j]? =some p∧M.cs[j]? =some Q:=⟨ks[j]'(by rw [h.kl];exact hj),M.cs[j]'(by rw [h.cl];exact hj),List.getElem?_eq_getElem _,List.getElem?_eq_getElem _⟩
theorem MaM.oldK {j:Nat} {p:Kp} (hp:ks[j]? =some p):∀b∈p.foot,b<w.heap.size:=by
 have hj:j<c.co:=by rw [←h.kl];exact (Vg hp).1
 obtain ⟨p',Q,h1,h2⟩:=h.kAt hj
 rw [hp] at h1
 cases h1
 have hc:=h.co j p Q hp h2
 intro b hb
 simp only [Kp.foot,List.mem_cons,Vn,or_false] at hb
 rcases hb with rfl|rfl|rfl
 ·exact hc.oldk.lt
 ·exact hc.oldp.lt
 ·exact hc.oldq.lt
theorem MaM.oldAll:∀b∈mp::cb::(Xz ks++F),b<w.heap.size:=by
 intro b hb
 simp only [List.mem_cons,List.mem_append] at hb
 rcases hb with rfl|rfl|hb|hb
 ·exact (old h.own).lt
 ·exact (old h.cors).lt
 ·obtain ⟨j,p,hp,hb⟩:=Ja.1 hb
  exact h.oldK hp b hb
 ·exact h.oldF b hb
theorem MaM.keepL {l:List Nat} (hc:Chg l w w') (hl:∀b∈l,b∉mp::cb::(Xz ks++F)) (hw:∀b∈l,W.heap.size≤b) (hr:0<M.rc.length→∀a:Addr,RA=some a→a.block∉l):MaM W w' c mp cb sy F ks RA rcap M:=by
 have hm:mp∉l:=fun e=>hl _ e (by simp)
 have hb:cb∉l:=fun e=>hl _ e (by simp)
 have hk:∀(j:Nat) (p:Kp),ks[j]? =some p→∀b∈p.foot,b∉l:=fun j p hp b hb e=>hl _ e (by simp only [List.mem_cons,List.mem_append];exact .inr (.inr (.inl (Ja.2 ⟨j,p,hp,hb⟩))))
 refine {h with own:=hc.keep h.own hm,cors:=hc.keep h.cors hb,sys:=Mem.keepL h.sys hc (fun b hb e=>hl b hb (by simp [e])) hw,co:=fun j p Q hp hq=>?_,rcs:=h.rcs.keep0 hc hr}
 exact (h.co j p Q hp hq).keep hc (hk j p hp _ (by simp [Kp.foot])) (hk j p hp _ (by simp [Kp.foot])) (hk j p hp _ (by simp [Kp.foot]))
theorem MaM.keep0 (hc:Chg [] w w'):MaM W w' c mp cb sy F ks RA rcap M:=h.keepL hc (by simp) (by simp) (by simp)
theorem MaM.mas:MaS W w c mp RA rcap (mp::cb::(Xz ks++F)) M:=⟨cb,sy,F,ks,rfl,h⟩
theorem MaM.sysTo {S':Mst} (m:MTS W w c sy F S' w'):∃F',MaM W w' c mp cb sy F' ks RA rcap (M.sys S')∧Chg (mp::cb::(Xz ks++F)) w w'∧∀b∈mp::cb::(Xz ks++F'),b∈mp::cb::(Xz ks++F)∨w.heap.size≤b:=by
 obtain ⟨F',hm,hc,hF⟩:=m
 have hne:∀b,b<w.heap.size→b∉F→b∉F':=fun b h1 h2 h3=>by
  rcases hF b h3 with h4|h4
  ·exact h2 h4
  ·omega
 have om:=(old h.own).lt
 have oc:=(old h.cors).lt
 refine ⟨F',{own:=hc.keep h.own h.dm,cors:=hc.keep h.cors h.dc,kl:=h.kl,cl:=h.cl,sys:=hm,co:=fun j p Q hp hq=>(h.co j p Q hp hq).keep hc (h.dk j p hp _ (by simp [Kp.foot])) (h.dk j p hp _ (by simp [Kp.foot])) (h.dk j p hp _ (by simp [Kp.foot])),rcs:=h.rcs.keep0 hc (fun h0 a ha e=>h.rd h0 a ha (by simp [e])),ne:=h.ne,km:=h.km,kd:=h.kd,dm:=hne _ om h.dm,dc:=hne _ oc h.dc,dk:=fun j p hp b hb=>hne b (h.oldK hp b hb) (h.dk j p hp b hb),rd:=fun h0 a ha=>?_,new:=h.new},hc.mono (by intro b hb;left;simp [hb]),?_⟩
 ·have h1:=h.rd h0 a ha
  simp only [List.mem_cons,List.mem_append,not_or] at h1 ⊢
  refine ⟨h1.1,h1.2.1,h1.2.2.1,hne _ ?_ h1.2.2.2⟩
  have h0':0<M.rc.length:=h0
  have:=h.rcs
  rcases this.2 with h2|⟨b,o,cs,t,f,h2,h3,_⟩
  ·omega
  ·rw [ha] at h2
   cases h2
   exact Z6 h3
 ·intro b hb
  simp only [List.mem_cons,List.mem_append] at hb ⊢
  rcases hb with h1|h1|h1|h1
  ·exact .inl (.inl h1)
  ·exact .inl (.inr (.inl h1))
  ·exact .inl (.inr (.inr (.inl h1)))
  ·rcases hF b h1 with h2|h2
   ·exact .inl (.inr (.inr (.inr h2)))
   ·exact .inr h2
theorem MaM.cs {j:Nat} {p:Kp} {Q:Co} (hp:ks[j]? =some p) (hQ:M.cs[j]? =some Q):CS W w c sy F M.S p.kb p.pb p.qb Q:=by
 have hn:∀b∈p.foot,W.heap.size≤b:=fun b hb=>h.new b (by simp only [List.mem_cons];exact .inr (.inr (Ja.2 ⟨j,p,hp,hb⟩)))
 exact ⟨h.sys,h.co j p Q hp hQ,h.dk j p hp _ (by simp [Kp.foot]),h.dk j p hp _ (by simp [Kp.foot]),h.dk j p hp _ (by simp [Kp.foot]),hn _ (by simp [Kp.foot]),hn _ (by simp [Kp.foot]),hn _ (by simp [Kp.foot])⟩
theorem MaM.coreTo {j:Nat} {p:Kp} {Q Q':Co} {S':Mst} {F':List Nat} (hp:ks[j]? =some p) (hQ:M.cs[j]? =some Q) (hcs:CS W w' c sy F' S' p.kb p.pb p.qb Q') (hc:Chg (p.kb::p.pb::p.qb::F) w w') (hF:∀b∈F',b∈F∨w.heap.size≤b):
 MaM W w' c mp cb sy F' ks RA rcap (M.core (j:Int) S' Q')∧Chg (mp::cb::(Xz ks++F)) w w'∧∀b∈mp::cb::(Xz ks++F'),b∈mp::cb::(Xz ks++F)∨w.heap.size≤b:=by
 have hjl:j<M.cs.length:=(Vg hQ).1
 have hne:∀b,b<w.heap.size→b∉F→b∉F':=fun b h1 h2 h3=>by
  rcases hF b h3 with h4|h4
  ·exact h2 h4
  ·omega
 have hin:∀b,b∉p.foot→b∉F→b∉p.kb::p.pb::p.qb::F:=fun b h1 h2 h3=>by
  simp only [Kp.foot,List.mem_cons,Vn,or_false,not_or] at h1
  simp only [List.mem_cons] at h3
  rcases h3 with h3|h3|h3|h3
  ·exact h1.1 h3
  ·exact h1.2.1 h3
  ·exact h1.2.2 h3
  ·exact h2 h3
 have om:=(old h.own).lt
 have oc:=(old h.cors).lt
 have hkm:=h.km j p hp
 refine ⟨{own:=hc.keep h.own (hin _ hkm.1 h.dm),cors:=hc.keep h.cors (hin _ hkm.2 h.dc),kl:=h.kl,cl:=by show (M.cs.set _ _).length=_;rw [List.length_set];exact h.cl,sys:=hcs.ms,co:=fun i q q' hq hq'=>?_,rcs:=h.rcs.keep0 hc (fun h0 a ha e=>?_),ne:=h.ne,km:=h.km,kd:=h.kd,dm:=hne _ om h.dm,dc:=hne _ oc h.dc,dk:=fun i q hq b hb=>hne b (h.oldK hq b hb) (h.dk i q hq b hb),rd:=fun h0 a ha=>?_,new:=h.new},hc.mono ?_,?_⟩
 ·have hq2:(M.cs.set j Q')[i]? =some q':=by simpa [Mac.core] using hq'
  rw [List.getElem?_set] at hq2
  split at hq2
  ·rename_i e
   subst e
   cases hq2
   rw [hp] at hq
   cases hq
   exact hcs.co
  ·rename_i e
   have hd:=h.kd i j q p (fun e'=>e e'.symm) hq hp
   exact (h.co i q q' hq hq2).keep hc (hin _ (hd _ (by simp [Kp.foot])) (h.dk i q hq _ (by simp [Kp.foot]))) (hin _ (hd _ (by simp [Kp.foot])) (h.dk i q hq _ (by simp [Kp.foot]))) (hin _ (hd _ (by simp [Kp.foot])) (h.dk i q hq _ (by simp [Kp.foot])))
 ·have h1:=h.rd h0 a ha
  simp only [List.mem_cons,List.mem_append,not_or] at h1
  refine hin _ (fun hf=>h1.2.2.1 (Ja.2 ⟨j,p,hp,hf⟩)) h1.2.2.2 e
 ·have h1:=h.rd h0 a ha
  simp only [List.mem_cons,List.mem_append,not_or] at h1 ⊢
  refine ⟨h1.1,h1.2.1,h1.2.2.1,hne _ ?_ h1.2.2.2⟩
  have h0':0<M.rc.length:=h0
  have:=h.rcs
  rcases this.2 with h2|⟨b,o,cs,t,f,h2,h3,_⟩
  ·omega
  ·rw [ha] at h2
   cases h2
   exact Z6 h3
 ·intro b hb
  left
  simp only [List.mem_cons,List.mem_append] at hb ⊢
  rcases hb with h1|h1|h1|h1
  ·exact .inr (.inr (.inl (Ja.2 ⟨j,p,hp,by simp [Kp.foot,h1]⟩)))
  ·exact .inr (.inr (.inl (Ja.2 ⟨j,p,hp,by simp [Kp.foot,h1]⟩)))
  ·exact .inr (.inr (.inl (Ja.2 ⟨j,p,hp,by simp [Kp.foot,h1]⟩)))
  ·exact .inr (.inr (.inr h1))
 ·intro b hb
  simp only [List.mem_cons,List.mem_append] at hb ⊢
  rcases hb with h1|h1|h1|h1
  ·exact .inl (.inl h1)
  ·exact .inl (.inr (.inl h1))
  ·exact .inl (.inr (.inr (.inl h1)))
  ·rcases hF b h1 with h2|h2
   ·exact .inl (.inr (.inr (.inr h2)))
   ·exact .inr h2
theorem MaM.told {j:Nat} {p:Kp} {Q Q':Co} {S':Mst} {l:List Ev} {e:Ending} (hp:ks[j]? =some p) (hQ:M.cs[j]? =some Q) (hd:CSTo W w c sy F p.kb p.pb p.qb S' Q' l e w'):DoTo W w c mp RA rcap (mp::cb::(Xz ks++F)) (M.core (j:Int) S' Q',l) e w':=by
 obtain ⟨v,F',he,⟨A,cap,be,hv,h1,h2,h3⟩,hcs,hc,hF⟩:=hd
 obtain ⟨m1,m2,m3⟩:=h.coreTo hp hQ hcs hc hF
 refine ⟨v,_,he,⟨A,cap,hv,h1.sl Ev.len,fun h0 a ha=>?_⟩,m1.mas,m2,m3⟩
 obtain ⟨h4,h5,_⟩:=h1.there h0
 rw [h5] at ha
 cases ha
 have h6:=h2.resolve_left h4
 have h7:=h3.resolve_left h4
 refine ⟨h6,fun hm=>?_⟩
 have ha:=h.oldAll be
 simp only [List.mem_cons,List.mem_append] at hm ha
 rcases hm with hm|hm|hm|hm
 ·have:=ha (.inl hm);omega
 ·have:=ha (.inr (.inl hm));omega
 ·have:=ha (.inr (.inr (.inl hm)));omega
 ·exact h7 hm
theorem MaM.sysDo {S':Mst} (m:MTS W w c sy F S' w'):DoTo W w c mp RA rcap (mp::cb::(Xz ks++F)) (M.sys S',[]) (.returned (.slice none 0 0)) w':=by
 obtain ⟨F',m1,m2,m3⟩:=h.sysTo m
 exact ⟨_,_,rfl,EvsAt.nil ..,m1.mas,m2,m3⟩
theorem MaM.stayDo (hc:Chg [] w w'):DoTo W w c mp RA rcap (mp::cb::(Xz ks++F)) (M,[]) (.returned (.slice none 0 0)) w':=
 ⟨_,_,rfl,EvsAt.nil ..,(h.keep0 hc).mas,hc.mono (by simp),fun b hb=>.inl hb⟩
end
end
section
section
variable {P:Program} {md:Region.Mode} {ops:Array Oper} {C:World→Prop}
def sinkU (md:Region.Mode) (ops:Array Oper) (n u:Nat):Bool:=
 (List.range n).all fun i=>decide (i=u)||(List.range (n+1)).any fun j=>decide (i<j)&&decide (j≠u)&&Region.waitsFor md ops j i
def lexTailU (md:Region.Mode) (ops:Array Oper) (n u:Nat):Bool:=
 Region.noSelect ops&&decide (ops.size=n+1)&&decide (u<n)&&sinkU md ops n u&&Region.lexHead md ops (ops.size-n) n 0 (Array.replicate ops.size false)
theorem waitsU {n u:Nat} {ls:Array Bool} (hn:n<ops.size) (hs:sinkU md ops n u=true) (inv:HeadInv md ops n ls):
 ∀(d i:Nat),n-i=d→i<n→i≠u→ls.getD i true=false→n∉Region.ready md ops ls:=by
 intro d
 induction d using Nat.strongRecOn with
 |_ d ih=>
  intro i hd hi hiu hun hr
  obtain ⟨_,ot,hot,hall⟩:=mem_ready.1 hr
  have h1:=List.all_eq_true.1 hs i (List.mem_range.2 hi)
  simp only [Bool.or_eq_true,decide_eq_true_eq,hiu,false_or] at h1
  obtain ⟨j,hj,h2⟩:=List.any_eq_true.1 h1
  simp only [Bool.and_eq_true,decide_eq_true_eq] at h2
  obtain ⟨⟨hij,hju⟩,hwf⟩:=h2
  have hjn:j≤n:=by have:=List.mem_range.1 hj;omega
  obtain ⟨oj,hoj,e,he,hb,hon⟩:=Region.waitsFor_spec hwf
  by_cases hjt:j=n
  ·subst hjt
   have:oj=ot:=Option.some.inj (hoj.symm.trans hot)
   subst this
   have h2:=hall e he hb
   rw [hon,getD_both hun] at h2
   cases h2
  ·cases hl:ls.getD j false with
   |true=>
    have h2:=inv.closed j oj hoj hl e he hb
    rw [hon,getD_both hun] at h2
    cases h2
   |false=>
    have hjs:j<ls.size:=by rw [inv.size];omega
    exact ih (n-j) (by omega) j rfl (by omega) hju (getD_in hjs hl) hr
def waysU (P:Program) (md:Region.Mode) (ops:Array Oper) (C:World→Prop) (n u:Nat) (L:Array Bool→Act→Prop):Nat→Array Bool→Act→Prop
 |0,ls,a=>L ls a
 |f+1,ls,a=>Region.ready md ops ls≠[]∧(∀i∈Region.ready md ops ls,i<n→qOp P ops C i (waysU P md ops C n u L f (ls.setIfInBounds i true)) a)∧
  ((∀i∈Region.ready md ops ls,i<n)∨(f=0∧u∈Region.ready md ops ls∧∃ou v,ops[u]? =some ou∧Yields P ops ou v a∧
   (∀j oj,ops[j]? =some oj→j≠u→ls.getD j true=false→(∀e∈oj.after,Region.binds md e=true→e.on≠u)→ou.apart ops oj=true)∧L (ls.setIfInBounds u true) (a.put ou.dst v)))
theorem waysU.any {n u g:Nat} {L:Array Bool→Act→Prop} {Q':Exit→Act→World→Prop} (hsel:∀(j:Nat) (o:Oper) cs b,ops[j]? =some o→o.op≠.select cs b)
 (hQ:∀d v c a w,Q' (.panic c) (Act.put a d v) w→Q' (.panic c) a w) (hL:∀ls a w,C w→L ls a→wpAny P md ops Q' g ls a w):
 ∀(f:Nat) (ls:Array Bool) (a:Act) (w:World),C w→waysU P md ops C n u L f ls a→wpAny P md ops Q' (f+g) ls a w:=by
 intro f
 induction f with
 |zero=>
  intro ls a w hw h
  rw [Nat.zero_add]
  exact hL ls a w hw h
 |succ f ih=>
  intro ls a w hw h
  obtain ⟨h1,h2,h3⟩:=h
  rcases h3 with h3|⟨rfl,hu,ou,v,hou,hy,hfree,hl⟩
  ·rw [Nat.add_right_comm]
   exact ⟨fun e=>(h1 e).elim,fun i hi=>wpOp_of_qOp hw (fun a' w' hw' h'=>ih _ a' w' hw' h') (h2 i hi (h3 i hi))⟩
  ·rw [Nat.zero_add,Nat.add_comm]
   exact wpAny_first hou hsel (fun c a w=>hQ ou.dst v c a w) g ls a w hfree hu hy (hL _ _ w hw hl)
theorem waysU.first {n u i:Nat} {oi:Oper} {v:Value} {L:Array Bool→Act→Prop} (hi:ops[i]? =some oi) (hsel:∀(j:Nat) (o:Oper) cs b,ops[j]? =some o→o.op≠.select cs b)
 (hs:sinkU md ops n u=true) (hsz:ops.size=n+1) (hin:i<n) (hend:∀ls a,L ls a→∀j∈Region.ready md ops ls,n≤j) (hyu:i=u→∀a,YieldsIn P ops C oi v a→Yields P ops oi v a):
 ∀(f:Nat) (ls:Array Bool) (a:Act),HeadInv md ops n ls→(∀j oj,ops[j]? =some oj→j≠i→ls.getD j true=false→(∀e∈oj.after,Region.binds md e=true→e.on≠i)→oi.apart ops oj=true)→
  i∈Region.ready md ops ls→YieldsIn P ops C oi v a→waysU P md ops C n u L f (ls.setIfInBounds i true) (a.put oi.dst v)→waysU P md ops C n u L (f+1) ls a:=by
 have hlt:∀{ls:Array Bool} {j:Nat},j∈Region.ready md ops ls→j≠n→j<n:=fun hj hne=>by
  obtain ⟨_,oj,hoj,_⟩:=mem_ready.1 hj
  have:=(Array.getElem?_eq_some_iff.1 hoj).1
  omega
 intro f
 induction f with
 |zero=>
  intro ls a inv hfree hr hy H
  refine ⟨fun e=>(by rw [e] at hr;cases hr),fun j hj hjn=>?_,?_⟩
  ·by_cases hji:j=i
   ·rw [hji];exact hy.qOp hi H
   ·exact absurd hjn (Nat.not_lt_of_le (hend _ _ H j (ready_mono hj hji)))
  ·by_cases hiu:i=u
   ·subst hiu
    exact .inr ⟨rfl,hr,oi,v,hi,hyu rfl a hy,hfree,H⟩
   ·exact .inl fun j hj=>hlt hj fun e=>waitsU (by omega) hs inv _ i rfl hin hiu (mem_ready.1 hr).1 (e▸hj)
 |succ f ih=>
  intro ls a inv hfree hr hy H
  refine ⟨fun e=>(by rw [e] at hr;cases hr),fun j hj hjn=>?_,.inl fun j hj=>hlt hj fun e=>?_⟩
  ·by_cases hji:j=i
   ·rw [hji];exact hy.qOp hi H
   ·obtain ⟨hju,oj,hoj,hall⟩:=mem_ready.1 hj
    have hno:∀e∈oj.after,Region.binds md e=true→e.on≠i:=by
     intro e he hb heq
     have h1:=hall e he hb
     rw [heq,getD_both (mem_ready.1 hr).1] at h1
     cases h1
    refine qOp_mono (fun a' h3=>ih _ a' (inv.set hj hjn) ?_ (ready_mono hr (Ne.symm hji)) h3.1 ?_) (qOp_put hoj (hfree j oj hoj hji hju hno) (fun cs b=>hsel i oi cs b hi) (fun cs b=>hsel j oj cs b hoj) hy (H.2.1 j (ready_mono hj hji) hjn))
    ·intro k ok hk hki hu hno2
     refine hfree k ok hk hki ?_ hno2
     by_cases hjk:j=k
     ·rw [←hjk];exact hju
     ·rwa [getD_set_ne true hjk] at hu
    ·rw [Array.setIfInBounds_comm _ _ hji]
     exact h3.2
  ·subst e
   by_cases hiu:i=u
   ·have hj':=ready_mono hj (show j≠i by omega)
    rcases H.2.2 with h3|⟨_,hu,_⟩
    ·exact absurd (h3 j hj') (Nat.lt_irrefl _)
    ·rw [←hiu] at hu
     have h4:=(mem_ready.1 hu).1
     have his:i<ls.size:=by rw [inv.size];omega
     simp [Array.getD,his] at h4
   ·exact waitsU (by omega) hs inv _ i rfl hin hiu (mem_ready.1 hr).1 hj
theorem waysU.lex {n u g:Nat} {Lq:Act→Prop} (hsel:Region.noSelect ops=true) (hs:sinkU md ops n u=true) (hsz:ops.size=n+1) (hyu:∀ou v a,ops[u]? =some ou→YieldsIn P ops C ou v a→Yields P ops ou v a):
 ∀(l:List Oper) (k:Nat) (ls:Array Bool) (a:Act),(∀j,j<l.length→l[j]? =ops[k+j]?)→k+l.length=n→HeadInv md ops n ls→Region.lexHead md ops g l.length k ls=true→wpQuiet P ops C Lq l a→
  waysU P md ops C n u (fun ls' a'=>Region.seqB md ops g n ls'=true∧Lq a') l.length ls a:=by
 intro l
 induction l with
 |nil=>
  intro k ls a _ hk _ hB h
  have e:k=n:=by simpa using hk
  rw [e] at hB
  exact ⟨by simpa [Region.lexHead] using hB,h⟩
 |cons o l ih=>
  intro k ls a hl hk inv hB h
  have h0:ops[k]? =some o:=by simpa using (hl 0 (by simp)).symm
  rw [List.length_cons] at hk hB
  simp only [Region.lexHead,Bool.and_eq_true] at hB
  have hkn:k<n:=by omega
  have hr:k∈Region.ready md ops ls:=by simpa using hB.1.1
  have hq:qOp P ops C k (wpQuiet P ops C Lq l) a:=by unfold qOp;simp only [h0];exact h
  obtain ⟨v,hy,hK⟩:=yieldsIn_of_qOp h0 hq
  exact waysU.first h0 (Region.noSelect_spec hsel) hs hsz hkn (fun ls' a' hL=>seqB_ready hL.1) (fun e a' hy'=>hyu o v a' (e▸h0) hy') l.length ls a inv (Region.free_spec h0 hB.1.2) hr hy
   (ih (k+1) _ _ (fun j hj=>by have:=hl (j+1) (by simp;omega);simpa [Nat.add_assoc,Nat.add_comm 1 j] using this) (by omega) (inv.set hr hkn) hB.2 hK)
theorem XS {id:Nat} {Q:Exit→Act→World→Prop} {a:Act} {w:World} {l:List Oper} (N n u:Nat) (hm:P.follows .mixedOrders=true) (hB:lexTailU .any l.toArray n u=true)
 (hyu:∀ou v a,l[u]? =some ou→YieldsIn P l.toArray (fun w'=>∃x:Aft N w,w'=x.w) ou v a→Yields P l.toArray ou v a) (hQ:∀d v c a w,Q (.panic c) (Act.put a d v) w→Q (.panic c) a w)
 (h:wpQuiet P l.toArray (fun w'=>∃x:Aft N w,w'=x.w) (fun a'=>∀w',(∃x:Aft N w,w'=x.w)→wpList P l.toArray Q (l.drop n) a' w') (l.take n) a):(Code.region id l.toArray true).wp P Q a w:=by
 simp only [lexTailU,Bool.and_eq_true,decide_eq_true_eq] at hB
 obtain ⟨⟨⟨⟨hsel,hsz⟩,hun⟩,hs⟩,hlex⟩:=hB
 have hn':l.length=n+1:=by simpa using hsz
 have ht:(l.take n).length=n:=by rw [List.length_take];omega
 have hd:(l.drop n).length=l.toArray.size-n:=by simp
 have inv0:HeadInv .any l.toArray n (Array.replicate l.toArray.size false):=
  ⟨by simp,fun j oj _ e=>(by rw [getD_replicate_false] at e;cases e),fun t _ e=>getD_in (by simpa using e) (getD_replicate_false _ _)⟩
 have H:=waysU.lex (md:=.any) (u:=u) (g:=l.toArray.size-n) hsel hs hsz (fun ou v a ho hy=>hyu ou v a (by simpa using ho) hy) (l.take n) 0 _ a (fun j hj=>by
  rw [ht] at hj
  simp [hj]) (by omega) inv0 (by rw [ht];exact hlex) h
 refine wp_region_any hm ?_
 have hW:∃x:Aft N w,({w with drawn:=w.drawn+1}:World)=x.w:=⟨⟨_,(Below.refl _ _).drew⟩,rfl⟩
 have:=waysU.any (Q':=Q) (g:=l.toArray.size-n) (Region.noSelect_spec hsel) hQ (fun ls a' w' hw' hL=>by
  have:=wpAny_of_seq (md:=.any) (Q':=Q) (l.drop n) n ls a' w' (fun j=>by simp [List.getElem?_drop]) (by rw [hd];exact hL.1) (hL.2 w' hw')
  rwa [hd] at this) _ _ _ _ hW H
 rw [ht,show n+(l.toArray.size-n)=l.toArray.size by omega] at this
 exact this
end
section
variable {P:Program} {ops:Array Oper} {C:World→Prop}
theorem Jv {o:Oper} {x:Operand} {ix:Nat} (ho:o.op=.extract x ix) {w0:World} (hw0:C w0) {v:Value} {a:Act} (h:YieldsIn P ops C o v a):Yields P ops o v a:=by
 rcases h with ⟨h1,h2⟩|h
 ·refine .inl ⟨h1,fun w=>?_⟩
  have h3:=h2 w0 hw0
  unfold Oper.quietAt execOp at h3
  unfold execOp
  rw [ho] at h3 ⊢
  simp only at h3 ⊢
  unfold Instr.extract at h3 ⊢
  generalize a.eval x=y at *
  cases y
  case tuple vs=>
   cases hv:vs[ix]? with
   |some z=>
    simp only [hv] at h3 ⊢
    have h4:z=v:=by simpa [Oper.quietUpon] using h3
    simp [h4]
   |none=>
    simp only [hv] at h3
    simp [Oper.quietUpon,stuck] at h3
  all_goals simp [Oper.quietUpon,stuck] at h3
 ·exact .inr h
end
end
section
set_option maxRecDepth 100000
attribute [local go_sem ↓] Qv QF Qx QP QG Qs Qk Qh heap_alloc Ql heap_setCell Qc X7 Xl Xd ZF Yj Xs Yi Xr X1 X0 XW XX XY Xe XK XJ XI Xg Yq Yr Yp Ym Yn YC Yy Xv YA YB Yz Yx
attribute [local go_sem] Qb Qa Qe Qi Qd Qg Qf QB Qw QN QL QM Q6 QJ QA Qr QD QX QI Qq QC Qp Qj Qo Qn XV Xb Yh Q5 Xm Xn JC XZ ZU ZT ZS ZR X6 X5 X2 X3 X4 QE ZI Xf ZJ XH Q8 Xt Yo Xu JP Z3 Z2 Z1 Z0 ZZ Yv Yw Yu Ys Yt ZY QS QT QR QK Qt Zk
attribute [local simp ↓] Qk Qh heap_alloc Ql heap_setCell Qc
attribute [local simp] Qb Qa Qe Qi Qd Qg Qf Qr Qj Qo Qn Q5 QE Q8 QS QT QR QK Qt QD
attribute [local go_sem ↓] Qh
section
variable {W w:World} {c:Cg} {sy n:Nat} {F:List Nat} {S:Mst} {cur:Nat→List Int} {kb pb qb:Nat} {Q:Co} (h:CS W w c sy F S kb pb qb Q) (hI:Inv c n S cur) (hN:NN cur) (hn:n+1≤1000000000) (hR:Roomy c S) (hR2:∀li wo,Roomy c (loadM c S Q.id li wo).1) (hT:Tab W) {u:Int} {r:Bool} (hru:Q.ru=true) (hx:Q.pr[Q.pc]? =some (u,r))
include h hI hN hn hR hR2 hT hru hx
theorem xexec_2 (hd:decB u=true) (hk:(Qz u).op=2):Calls Tryz.prog 78 #[.pointer (some ⟨kb,0,none⟩),.pointer (some ⟨sy,0,none⟩)] w (CSTo W w c sy F kb pb qb S (YM (setR (QO Q u) (Qz u).a (doV (Qz u).op (regA (QO Q u) (Qz u).b) (regA (QO Q u) (Qz u).c)))) []):=by
 have _:=hI
 have _:=hN
 have _:=hn
 have _:=hR
 have _:=hR2
 have _:=hT
 have hg:YY (Qz u)=true:=by unfold decB at hd;rw [Bool.and_eq_true] at hd;exact hd.1
 obtain ⟨_,ga,gb,gc,gm⟩:=Zw hg
 have hpl:=(Vg hx).1
 have hpn:=h.co.ok.np
 have hp:(QO Q u).pc<2147483648:=by show Q.pc<_;omega
 have DH:=Qbs h.co hx
 rw [hd,show decI u=Qz u by unfold decI;rw [hd];rfl] at DH
 have HD:=Vh DH
 have RU:=Qa7 h.co.own
 rw [hru] at RU
 have HRU:=Vh RU
 have HP:=Vh hp
 have H1:=Vh (fun (w1:World) (hc:Chg [pb] w w1) (hC:Cor w1 kb pb qb (QO Q u))=>h.core (hc.mono (by simp)) hC)
 have EN:=Vh (fun (w':World) (Q':Co) (h':CS W w' c sy F S kb pb qb Q') (hp:Q'.pc<2147483648)=>(Qam h'.co h'.old hp).mono fun e w' hd=>h'.ofCo hd)
 obtain ⟨na,hna⟩:∃n:Nat,(Qz u).a=(n:Int):=⟨(Qz u).a.toNat,by omega⟩
 have la:na<8:=by omega
 have la':(na:Int)<8:=by omega
 obtain ⟨nb,hnb⟩:∃n:Nat,(Qz u).b=(n:Int):=⟨(Qz u).b.toNat,by omega⟩
 have lb:nb<8:=by omega
 have lb':(nb:Int)<8:=by omega
 obtain ⟨nc,hnc⟩:∃n:Nat,(Qz u).c=(n:Int):=⟨(Qz u).c.toNat,by omega⟩
 have lc:nc<8:=by omega
 have lc':(nc:Int)<8:=by omega
 have eb:regA (QO Q u) (Qz u).b=regN (QO Q u).rg nb:=by unfold regA;rw [hnb,Int.toNat_natCast]
 have ec:regA (QO Q u) (Qz u).c=regN (QO Q u).rg nc:=by unfold regA;rw [hnc,Int.toNat_natCast]
 have p1:=h.co.ok.pos.read u |>.reg (Qz u).b
 have p2:=h.co.ok.pos.read u |>.reg (Qz u).c
 rw [eb] at p1
 rw [ec] at p2
 have HV:=Vh (Qe8 2 (b:=regN (QO Q u).rg nb) (c:=regN (QO Q u).rg nc) p1)
 have GD:=Vh (fun (w':World)=>Qgm 2 (regN (QO Q u).rg nb) (regN (QO Q u).rg nc) p2 w' |>.mono fun _ _ h=>(⟨h.1,h.2▸Chg.mapW _ _⟩:_∧Chg [] w' _))
 exact Tz1
theorem xexec_3 (hd:decB u=true) (hk:(Qz u).op=3):Calls Tryz.prog 78 #[.pointer (some ⟨kb,0,none⟩),.pointer (some ⟨sy,0,none⟩)] w (CSTo W w c sy F kb pb qb S (YM (setR (QO Q u) (Qz u).a (doV (Qz u).op (regA (QO Q u) (Qz u).b) (regA (QO Q u) (Qz u).c)))) []):=by
 have _:=hI
 have _:=hN
 have _:=hn
 have _:=hR
 have _:=hR2
 have _:=hT
 have hg:YY (Qz u)=true:=by unfold decB at hd;rw [Bool.and_eq_true] at hd;exact hd.1
 obtain ⟨_,ga,gb,gc,gm⟩:=Zw hg
 have hpl:=(Vg hx).1
 have hpn:=h.co.ok.np
 have hp:(QO Q u).pc<2147483648:=by show Q.pc<_;omega
 have DH:=Qbs h.co hx
 rw [hd,show decI u=Qz u by unfold decI;rw [hd];rfl] at DH
 have HD:=Vh DH
 have RU:=Qa7 h.co.own
 rw [hru] at RU
 have HRU:=Vh RU
 have HP:=Vh hp
 have H1:=Vh (fun (w1:World) (hc:Chg [pb] w w1) (hC:Cor w1 kb pb qb (QO Q u))=>h.core (hc.mono (by simp)) hC)
 have EN:=Vh (fun (w':World) (Q':Co) (h':CS W w' c sy F S kb pb qb Q') (hp:Q'.pc<2147483648)=>(Qam h'.co h'.old hp).mono fun e w' hd=>h'.ofCo hd)
 obtain ⟨na,hna⟩:∃n:Nat,(Qz u).a=(n:Int):=⟨(Qz u).a.toNat,by omega⟩
 have la:na<8:=by omega
 have la':(na:Int)<8:=by omega
 obtain ⟨nb,hnb⟩:∃n:Nat,(Qz u).b=(n:Int):=⟨(Qz u).b.toNat,by omega⟩
 have lb:nb<8:=by omega
 have lb':(nb:Int)<8:=by omega
 obtain ⟨nc,hnc⟩:∃n:Nat,(Qz u).c=(n:Int):=⟨(Qz u).c.toNat,by omega⟩
 have lc:nc<8:=by omega
 have lc':(nc:Int)<8:=by omega
 have eb:regA (QO Q u) (Qz u).b=regN (QO Q u).rg nb:=by unfold regA;rw [hnb,Int.toNat_natCast]
 have ec:regA (QO Q u) (Qz u).c=regN (QO Q u).rg nc:=by unfold regA;rw [hnc,Int.toNat_natCast]
 have p1:=h.co.ok.pos.read u |>.reg (Qz u).b
 have p2:=h.co.ok.pos.read u |>.reg (Qz u).c
 rw [eb] at p1
 rw [ec] at p2
 have HV:=Vh (Qe8 3 (b:=regN (QO Q u).rg nb) (c:=regN (QO Q u).rg nc) p1)
 have GD:=Vh (fun (w':World)=>Qgm 3 (regN (QO Q u).rg nb) (regN (QO Q u).rg nc) p2 w' |>.mono fun _ _ h=>(⟨h.1,h.2▸Chg.mapW _ _⟩:_∧Chg [] w' _))
 exact Tz1
theorem xexec_4 (hd:decB u=true) (hk:(Qz u).op=4):Calls Tryz.prog 78 #[.pointer (some ⟨kb,0,none⟩),.pointer (some ⟨sy,0,none⟩)] w (CSTo W w c sy F kb pb qb S (YM (setR (QO Q u) (Qz u).a (doV (Qz u).op (regA (QO Q u) (Qz u).b) (regA (QO Q u) (Qz u).c)))) []):=by
 have _:=hI
 have _:=hN
 have _:=hn
 have _:=hR
 have _:=hR2
 have _:=hT
 have hg:YY (Qz u)=true:=by unfold decB at hd;rw [Bool.and_eq_true] at hd;exact hd.1
 obtain ⟨_,ga,gb,gc,gm⟩:=Zw hg
 have hpl:=(Vg hx).1
 have hpn:=h.co.ok.np
 have hp:(QO Q u).pc<2147483648:=by show Q.pc<_;omega
 have DH:=Qbs h.co hx
 rw [hd,show decI u=Qz u by unfold decI;rw [hd];rfl] at DH
 have HD:=Vh DH
 have RU:=Qa7 h.co.own
 rw [hru] at RU
 have HRU:=Vh RU
 have HP:=Vh hp
 have H1:=Vh (fun (w1:World) (hc:Chg [pb] w w1) (hC:Cor w1 kb pb qb (QO Q u))=>h.core (hc.mono (by simp)) hC)
 have EN:=Vh (fun (w':World) (Q':Co) (h':CS W w' c sy F S kb pb qb Q') (hp:Q'.pc<2147483648)=>(Qam h'.co h'.old hp).mono fun e w' hd=>h'.ofCo hd)
 obtain ⟨na,hna⟩:∃n:Nat,(Qz u).a=(n:Int):=⟨(Qz u).a.toNat,by omega⟩
 have la:na<8:=by omega
 have la':(na:Int)<8:=by omega
 obtain ⟨nb,hnb⟩:∃n:Nat,(Qz u).b=(n:Int):=⟨(Qz u).b.toNat,by omega⟩
 have lb:nb<8:=by omega
 have lb':(nb:Int)<8:=by omega
 obtain ⟨nc,hnc⟩:∃n:Nat,(Qz u).c=(n:Int):=⟨(Qz u).c.toNat,by omega⟩
 have lc:nc<8:=by omega
 have lc':(nc:Int)<8:=by omega
 have eb:regA (QO Q u) (Qz u).b=regN (QO Q u).rg nb:=by unfold regA;rw [hnb,Int.toNat_natCast]
 have ec:regA (QO Q u) (Qz u).c=regN (QO Q u).rg nc:=by unfold regA;rw [hnc,Int.toNat_natCast]
 have p1:=h.co.ok.pos.read u |>.reg (Qz u).b
 have p2:=h.co.ok.pos.read u |>.reg (Qz u).c
 rw [eb] at p1
 rw [ec] at p2
 have HV:=Vh (Qe8 4 (b:=regN (QO Q u).rg nb) (c:=regN (QO Q u).rg nc) p1)
 have GD:=Vh (fun (w':World)=>Qgm 4 (regN (QO Q u).rg nb) (regN (QO Q u).rg nc) p2 w' |>.mono fun _ _ h=>(⟨h.1,h.2▸Chg.mapW _ _⟩:_∧Chg [] w' _))
 exact Tz1
theorem xexec_5 (hd:decB u=true) (hk:(Qz u).op=5):Calls Tryz.prog 78 #[.pointer (some ⟨kb,0,none⟩),.pointer (some ⟨sy,0,none⟩)] w (CSTo W w c sy F kb pb qb S (YM (setR (QO Q u) (Qz u).a (doV (Qz u).op (regA (QO Q u) (Qz u).b) (regA (QO Q u) (Qz u).c)))) []):=by
 have _:=hI
 have _:=hN
 have _:=hn
 have _:=hR
 have _:=hR2
 have _:=hT
 have hg:YY (Qz u)=true:=by unfold decB at hd;rw [Bool.and_eq_true] at hd;exact hd.1
 obtain ⟨_,ga,gb,gc,gm⟩:=Zw hg
 have hpl:=(Vg hx).1
 have hpn:=h.co.ok.np
 have hp:(QO Q u).pc<2147483648:=by show Q.pc<_;omega
 have DH:=Qbs h.co hx
 rw [hd,show decI u=Qz u by unfold decI;rw [hd];rfl] at DH
 have HD:=Vh DH
 have RU:=Qa7 h.co.own
 rw [hru] at RU
 have HRU:=Vh RU
 have HP:=Vh hp
 have H1:=Vh (fun (w1:World) (hc:Chg [pb] w w1) (hC:Cor w1 kb pb qb (QO Q u))=>h.core (hc.mono (by simp)) hC)
 have EN:=Vh (fun (w':World) (Q':Co) (h':CS W w' c sy F S kb pb qb Q') (hp:Q'.pc<2147483648)=>(Qam h'.co h'.old hp).mono fun e w' hd=>h'.ofCo hd)
 obtain ⟨na,hna⟩:∃n:Nat,(Qz u).a=(n:Int):=⟨(Qz u).a.toNat,by omega⟩
 have la:na<8:=by omega
 have la':(na:Int)<8:=by omega
 obtain ⟨nb,hnb⟩:∃n:Nat,(Qz u).b=(n:Int):=⟨(Qz u).b.toNat,by omega⟩
 have lb:nb<8:=by omega
 have lb':(nb:Int)<8:=by omega
 obtain ⟨nc,hnc⟩:∃n:Nat,(Qz u).c=(n:Int):=⟨(Qz u).c.toNat,by omega⟩
 have lc:nc<8:=by omega
 have lc':(nc:Int)<8:=by omega
 have eb:regA (QO Q u) (Qz u).b=regN (QO Q u).rg nb:=by unfold regA;rw [hnb,Int.toNat_natCast]
 have ec:regA (QO Q u) (Qz u).c=regN (QO Q u).rg nc:=by unfold regA;rw [hnc,Int.toNat_natCast]
 have p1:=h.co.ok.pos.read u |>.reg (Qz u).b
 have p2:=h.co.ok.pos.read u |>.reg (Qz u).c
 rw [eb] at p1
 rw [ec] at p2
 have HV:=Vh (Qe8 5 (b:=regN (QO Q u).rg nb) (c:=regN (QO Q u).rg nc) p1)
 have GD:=Vh (fun (w':World)=>Qgm 5 (regN (QO Q u).rg nb) (regN (QO Q u).rg nc) p2 w' |>.mono fun _ _ h=>(⟨h.1,h.2▸Chg.mapW _ _⟩:_∧Chg [] w' _))
 exact Tz1
theorem xexec_6 (hd:decB u=true) (hk:(Qz u).op=6):Calls Tryz.prog 78 #[.pointer (some ⟨kb,0,none⟩),.pointer (some ⟨sy,0,none⟩)] w (CSTo W w c sy F kb pb qb S (YM (setR (QO Q u) (Qz u).a (doV (Qz u).op (regA (QO Q u) (Qz u).b) (regA (QO Q u) (Qz u).c)))) []):=by
 have _:=hI
 have _:=hN
 have _:=hn
 have _:=hR
 have _:=hR2
 have _:=hT
 have hg:YY (Qz u)=true:=by unfold decB at hd;rw [Bool.and_eq_true] at hd;exact hd.1
 obtain ⟨_,ga,gb,gc,gm⟩:=Zw hg
 have hpl:=(Vg hx).1
 have hpn:=h.co.ok.np
 have hp:(QO Q u).pc<2147483648:=by show Q.pc<_;omega
 have DH:=Qbs h.co hx
 rw [hd,show decI u=Qz u by unfold decI;rw [hd];rfl] at DH
 have HD:=Vh DH
 have RU:=Qa7 h.co.own
 rw [hru] at RU
 have HRU:=Vh RU
 have HP:=Vh hp
 have H1:=Vh (fun (w1:World) (hc:Chg [pb] w w1) (hC:Cor w1 kb pb qb (QO Q u))=>h.core (hc.mono (by simp)) hC)
 have EN:=Vh (fun (w':World) (Q':Co) (h':CS W w' c sy F S kb pb qb Q') (hp:Q'.pc<2147483648)=>(Qam h'.co h'.old hp).mono fun e w' hd=>h'.ofCo hd)
 obtain ⟨na,hna⟩:∃n:Nat,(Qz u).a=(n:Int):=⟨(Qz u).a.toNat,by omega⟩
 have la:na<8:=by omega
 have la':(na:Int)<8:=by omega
 obtain ⟨nb,hnb⟩:∃n:Nat,(Qz u).b=(n:Int):=⟨(Qz u).b.toNat,by omega⟩
 have lb:nb<8:=by omega
 have lb':(nb:Int)<8:=by omega
 obtain ⟨nc,hnc⟩:∃n:Nat,(Qz u).c=(n:Int):=⟨(Qz u).c.toNat,by omega⟩
 have lc:nc<8:=by omega
 have lc':(nc:Int)<8:=by omega
 have eb:regA (QO Q u) (Qz u).b=regN (QO Q u).rg nb:=by unfold regA;rw [hnb,Int.toNat_natCast]
 have ec:regA (QO Q u) (Qz u).c=regN (QO Q u).rg nc:=by unfold regA;rw [hnc,Int.toNat_natCast]
 have p1:=h.co.ok.pos.read u |>.reg (Qz u).b
 have p2:=h.co.ok.pos.read u |>.reg (Qz u).c
 rw [eb] at p1
 rw [ec] at p2
 have HV:=Vh (Qe8 6 (b:=regN (QO Q u).rg nb) (c:=regN (QO Q u).rg nc) p1)
 have GD:=Vh (fun (w':World)=>Qgm 6 (regN (QO Q u).rg nb) (regN (QO Q u).rg nc) p2 w' |>.mono fun _ _ h=>(⟨h.1,h.2▸Chg.mapW _ _⟩:_∧Chg [] w' _))
 exact Tz1
theorem xexec_7 (hd:decB u=true) (hk:(Qz u).op=7):Calls Tryz.prog 78 #[.pointer (some ⟨kb,0,none⟩),.pointer (some ⟨sy,0,none⟩)] w (CSTo W w c sy F kb pb qb S (YM (setR (QO Q u) (Qz u).a (doV (Qz u).op (regA (QO Q u) (Qz u).b) (regA (QO Q u) (Qz u).c)))) []):=by
 have _:=hI
 have _:=hN
 have _:=hn
 have _:=hR
 have _:=hR2
 have _:=hT
 have hg:YY (Qz u)=true:=by unfold decB at hd;rw [Bool.and_eq_true] at hd;exact hd.1
 obtain ⟨_,ga,gb,gc,gm⟩:=Zw hg
 have hpl:=(Vg hx).1
 have hpn:=h.co.ok.np
 have hp:(QO Q u).pc<2147483648:=by show Q.pc<_;omega
 have DH:=Qbs h.co hx
 rw [hd,show decI u=Qz u by unfold decI;rw [hd];rfl] at DH
 have HD:=Vh DH
 have RU:=Qa7 h.co.own
 rw [hru] at RU
 have HRU:=Vh RU
 have HP:=Vh hp
 have H1:=Vh (fun (w1:World) (hc:Chg [pb] w w1) (hC:Cor w1 kb pb qb (QO Q u))=>h.core (hc.mono (by simp)) hC)
 have EN:=Vh (fun (w':World) (Q':Co) (h':CS W w' c sy F S kb pb qb Q') (hp:Q'.pc<2147483648)=>(Qam h'.co h'.old hp).mono fun e w' hd=>h'.ofCo hd)
 obtain ⟨na,hna⟩:∃n:Nat,(Qz u).a=(n:Int):=⟨(Qz u).a.toNat,by omega⟩
 have la:na<8:=by omega
 have la':(na:Int)<8:=by omega
 obtain ⟨nb,hnb⟩:∃n:Nat,(Qz u).b=(n:Int):=⟨(Qz u).b.toNat,by omega⟩
 have lb:nb<8:=by omega
 have lb':(nb:Int)<8:=by omega
 obtain ⟨nc,hnc⟩:∃n:Nat,(Qz u).c=(n:Int):=⟨(Qz u).c.toNat,by omega⟩
 have lc:nc<8:=by omega
 have lc':(nc:Int)<8:=by omega
 have eb:regA (QO Q u) (Qz u).b=regN (QO Q u).rg nb:=by unfold regA;rw [hnb,Int.toNat_natCast]
 have ec:regA (QO Q u) (Qz u).c=regN (QO Q u).rg nc:=by unfold regA;rw [hnc,Int.toNat_natCast]
 have p1:=h.co.ok.pos.read u |>.reg (Qz u).b
 have p2:=h.co.ok.pos.read u |>.reg (Qz u).c
 rw [eb] at p1
 rw [ec] at p2
 have HV:=Vh (Qe8 7 (b:=regN (QO Q u).rg nb) (c:=regN (QO Q u).rg nc) p1)
 have GD:=Vh (fun (w':World)=>Qgm 7 (regN (QO Q u).rg nb) (regN (QO Q u).rg nc) p2 w' |>.mono fun _ _ h=>(⟨h.1,h.2▸Chg.mapW _ _⟩:_∧Chg [] w' _))
 exact Tz1
end
end
end Go.Proofs.YtlidfghgjjffaaaGreatDoor
