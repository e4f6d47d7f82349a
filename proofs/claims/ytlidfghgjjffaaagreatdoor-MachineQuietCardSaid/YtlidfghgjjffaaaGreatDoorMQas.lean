/- Texts of the walk, one behind the other: Mcm Mcn Mco Mcp Mcq Mcr. No condition. -/
import Derived.Test.YtlidfghgjjffaaaGreatDoorMQaa
import Derived.Test.YtlidfghgjjffaaaGreatDoorMQai
import Derived.Test.YtlidfghgjjffaaaGreatDoorMQar
namespace Go.Proofs.YtlidfghgjjffaaaGreatDoor
open Go.RowKit
set_option linter.unusedVariables false
set_option maxHeartbeats 1000000
set_option maxRecDepth 100000
attribute [local go_sem ↓] Qv QF Qx QP QG Qs Qk Qh heap_alloc Ql heap_setCell Qc X7 Xl Xd ZF Yj Xs Yi Xr X1 X0 XW XX XY Xe XK XJ XI Xg Yq Yr Yp Ym Yn YC Yy Xv YA YB Yz Yx Qak Jp Qap Qaq Qao Qag Qaj Qah Qai
attribute [local go_sem] Qb Qa Qe Qi Qd Qg Qf QB Qw QN QL QM Q6 QJ QA Qr QD QX QI Qq QC Qp Qj Qo Qn XV Xb Yh Q5 Xm Xn JC XZ ZU ZT ZS ZR X6 X5 X2 X3 X4 QE ZI Xf ZJ XH Q8 Xt Yo Xu JP Z3 Z2 Z1 Z0 ZZ Yv Yw Yu Ys Yt ZY QS QT QR QK Qt Zk Qad ZC Jd Qan Je Yl ZK
attribute [local simp ↓] Qk Qh heap_alloc Ql heap_setCell Qc
attribute [local simp] Qb Qa Qe Qi Qd Qg Qf Qr Qj Qo Qn Q5 QE Q8 QS QT QR QK Qt QD ZC ZK
attribute [local go_sem ↓] Qh
section
theorem pk_info:(Tryz.prog.info? 66).map (fun i=>(i.zero,i.size,i.bytes))=some (some (.pointer none),1,8):=by kernel_rfl
def ptO:Option Kp→Value
 |none=>.pointer none
 |some p=>.pointer (some ⟨p.kb,0,none⟩)
def pkO (x:Option Kp):List Value:=[ptO x]
theorem pkO_len (x:Option Kp):(pkO x).length=1:=rfl
theorem Qi0 (l:List (Option Kp)):cat pkO l=l.map ptO:=by
 induction l with
 |nil=>rfl
 |cons x xs ih=>rw [cat_cons,ih];rfl
theorem cat_pke (l:List Kp):cat pke l=l.map (fun p=>ptO (some p)):=by
 induction l with
 |nil=>rfl
 |cons x xs ih=>rw [cat_cons,ih];rfl
def Qdx (ks:List Kp) (n:Nat):List (Option Kp):=ks.map some++List.replicate (n-ks.length) none
theorem fillK_full {ks:List Kp} {n:Nat} (h:ks.length=n):sq pkO (Qdx ks n) []=sq pke ks []:=by
 unfold sq Qdx
 rw [h,Nat.sub_self,List.replicate_zero,List.append_nil,List.append_nil,List.append_nil,Qi0,cat_pke,List.map_map]
 rfl
theorem fillK_set {ks:List Kp} {n:Nat} (h:ks.length<n) (p:Kp):(sq pkO (Qdx ks n) []).setIfInBounds ks.length (.pointer (some ⟨p.kb,0,none⟩))=sq pkO (Qdx (ks++[p]) n) []:=by
 unfold sq Qdx
 obtain ⟨m,hm⟩:∃m,n-ks.length=m+1:=⟨n-ks.length-1,by omega⟩
 have hm2:n-(ks.length+1)=m:=by omega
 rw [hm,List.length_append,List.length_singleton,hm2,List.append_nil,List.append_nil,Qi0,Qi0,List.setIfInBounds_toArray]
 congr 1
 rw [List.map_append,List.map_append,List.map_append,List.map_append,List.set_append_right _ _ (by simp)]
 simp [List.replicate_succ,ptO]
theorem fillK_size {ks:List Kp} {n:Nat} (h:ks.length≤n):(sq pkO (Qdx ks n) []).size=n:=by
 unfold sq Qdx
 rw [Qi0]
 simp
 omega
theorem run_make_pk (w:World) (n:Nat) (hn:n≤64):mkR Tryz.prog 71 (.int .i64 n) (.int .i64 n) w=.ok (.slice (some ⟨w.heap.size,0,none⟩) n n) (w.alloc (.cells (sq pkO (Qdx [] n) []) 66)):=by
 obtain ⟨i0,hi0,hz0,hz1,hz2⟩:=info_parts pk_info
 have:=run_make (P:=Tryz.prog) w 71 66 i0 _ Tryz.underlying71 hi0 hz0 .i64 .i64 n n (by omega) (by omega) (by rw [hz2];omega) (by omega)
 simp only [Int.toNat_natCast,hz1] at this
 rw [show Qdx [] n=List.replicate n none by simp [Qdx],←made_sq pkO_len (by decide)]
 exact this
structure NewK (w w':World) (cb room:Nat) (ks:List Kp) (us:List (List Int)):Prop where
 co:∀(j:Nat) (p:Kp) (u:List Int),ks[j]? =some p→us[j]? =some u→Cor w' p.kb p.pb p.qb (co0 (j:Int) room u)
 km:∀(j:Nat) (p:Kp),ks[j]? =some p→cb∉p.foot∧∀b∈p.foot,w.heap.size≤b∧b<w'.heap.size
 kd:∀(i j:Nat) (p q:Kp),i≠j→ks[i]? =some p→ks[j]? =some q→∀b∈p.foot,b∉q.foot
theorem NewK.keep {w w' w2:World} {cb room:Nat} {ks:List Kp} {us:List (List Int)} (h:NewK w w' cb room ks us) {l:List Nat} (hc:Chg l w' w2) (hl:∀(j:Nat) (p:Kp),ks[j]? =some p→∀b∈p.foot,b∉l):NewK w w2 cb room ks us where
 co:=fun j p u hp hu=>(h.co j p u hp hu).keep hc (hl j p hp _ (by simp [Kp.foot])) (hl j p hp _ (by simp [Kp.foot])) (hl j p hp _ (by simp [Kp.foot]))
 km:=fun j p hp=>⟨(h.km j p hp).1,fun b hb=>⟨((h.km j p hp).2 b hb).1,Nat.lt_of_lt_of_le ((h.km j p hp).2 b hb).2 hc.size⟩⟩
 kd:=h.kd
theorem NewK.snoc {w w':World} {cb room:Nat} {ks:List Kp} {us:List (List Int)} {u:List Int} {kb pb qb:Nat} {w2:World} (h:NewK w w' cb room ks us) (hc:Chg [] w' w2) (hw:w.heap.size≤w'.heap.size) (hcb:cb<w'.heap.size) (hu:us[ks.length]? =some u)
 (hC:Cor w2 kb pb qb (co0 (ks.length:Int) room u)) (h1:w'.heap.size≤kb) (h2:w'.heap.size≤pb) (h3:w'.heap.size≤qb):NewK w w2 cb room (ks++[⟨kb,pb,qb⟩]) us:=by
 have h0:=h.keep hc (by simp)
 have hnew:∀b∈(⟨kb,pb,qb⟩:Kp).foot,w'.heap.size≤b∧b<w2.heap.size:=by
  intro b hb
  simp only [Kp.foot,List.mem_cons,Vn,or_false] at hb
  rcases hb with rfl|rfl|rfl
  ·exact ⟨h1,hC.oldk.lt⟩
  ·exact ⟨h2,hC.oldp.lt⟩
  ·exact ⟨h3,hC.oldq.lt⟩
 have hat:∀(j:Nat) (p:Kp),(ks++[⟨kb,pb,qb⟩])[j]? =some p→ks[j]? =some p∨(j=ks.length∧p=⟨kb,pb,qb⟩):=by
  intro j p hp
  by_cases hj:j<ks.length
  ·rw [List.getElem?_append_left hj] at hp;exact .inl hp
  ·have hj2:j=ks.length:=by
    have:=(Vg hp).1
    simp at this;omega
   subst hj2
   rw [List.getElem?_concat_length] at hp
   exact .inr ⟨rfl,(Option.some.inj hp).symm⟩
 refine ⟨fun j p v hp hv=>?_,fun j p hp=>?_,fun i j p q hne hp hq b hb=>?_⟩
 ·rcases hat j p hp with h4|⟨rfl,rfl⟩
  ·exact h0.co j p v h4 hv
  ·rw [hu] at hv
   cases hv
   exact hC
 ·rcases hat j p hp with h4|⟨rfl,rfl⟩
  ·exact h0.km j p h4
  ·refine ⟨fun hm=>by have:=hnew _ hm;omega,fun b hb=>?_⟩
   have:=hnew b hb
   omega
 ·rcases hat i p hp with h4|⟨e4,rfl⟩
  ·have o1:=((h.km i p h4).2 b hb).2
   rcases hat j q hq with h5|⟨_,rfl⟩
   ·exact h.kd i j p q hne h4 h5 b hb
   ·intro hm
    have:=hnew b hm
    omega
  ·have o1:=hnew b hb
   rcases hat j q hq with h5|⟨e5,_⟩
   ·intro hm
    have:=((h.km j q h5).2 b hm).2
    omega
   ·omega
set_option maxHeartbeats 8000000 in
theorem mcores {w:World} {PA:Option Addr} {n pcap room:Nat} {fs:List Rf} {us:List (List Int)} (hs:Sl w 1 PA n (cat re fs)) (hf:fs.length=n) (hu:us.length=n)
 (hin:∀(i:Nat) (r:Rf) (u:List Int),fs[i]? =some r→us[i]? =some u→r.n=u.length∧Sl w 1 r.A r.n (u.map (Value.int .u64))∧u.length≤4096∧∀x∈u,0≤x∧x<18446744073709551616) (h1:1≤room) (h2:room≤16) (hn:n≤8):
 Calls Tryz.prog 25 #[.int .i64 (room:Int),.slice PA n pcap] w fun e w'=>∃(cb:Nat) (ks:List Kp),e=.returned (.tuple #[.slice (some ⟨cb,0,none⟩) n n,.int .i64 0])∧w.heap.size≤cb∧w'.heap[cb]? =some (.cells (sq pke ks []) 66 (0,0))∧ks.length=n∧NewK w w' cb room ks us∧Chg [] w w':=by
 have hmk:=run_make_pk w n (by omega)
 have c1:Chg [] w (w.alloc (.cells (sq pkO (Qdx [] n) []) 66)):=(Chg.refl [] w).alloc _
 have hb1:(w.alloc (.cells (sq pkO (Qdx [] n) []) 66)).heap[w.heap.size]? =some (.cells (sq pkO (Qdx [] n) []) 66 (0,0)):=(MapKept.heap_alloc w _).1
 have HS:=Vh hs
 have HF:=Vh hf
 have HU:=Vh hu
 have HIN:=Vh hin
 have H1:=Vh h1
 have H2:=Vh h2
 have HN:=Vh hn
 have gN:(n:Int)≤8:=by omega
 have HC1:=Vh c1
 have HB1:=Vh hb1
 clear hs hf hu hin h1 h2 hn c1 hb1
 go_enter Tryz.func25,Tryz.ntmps25
 go_wp2_with fail
 generalize w.alloc (.cells (sq pkO (Qdx [] n) []) 66)=w1 at *
 generalize hp:w.heap.size=p at *
 have HP:=Vh hp
 clear hp
 go_loopw [7,8,9,10,16] (fun _ _ _ _ i wr=>∃ks:List Kp,ks.length≤n∧i=.int .i64 (ks.length:Int)∧wr.heap[p]? =some (.cells (sq pkO (Qdx ks n) []) 66 (0,0))∧NewK w wr p room ks us∧Chg [] w wr) (fun _ _ _ _ i _=>n-(intOf i).toNat)
 case atStart=>exact ⟨[],by simp,rfl,HB1.out,⟨fun j p u hp=>by simp at hp,fun j p hp=>by simp at hp,fun i j p q _ hp=>by simp at hp⟩,HC1.out⟩
 case round=>
  obtain ⟨ks,hk,rfl,hb,hnk,hc⟩:=hrel
  have HB:=Vh hb
  have HNK:=Vh hnk
  have HC:=Vh hc
  have HK:=Vh hk
  clear hnk hk hb
  by_cases hlt:ks.length<n
  ·obtain ⟨r,hr⟩:∃r,fs[ks.length]? =some r:=⟨fs[ks.length]'(by rw [HF.out];exact hlt),List.getElem?_eq_getElem _⟩
   obtain ⟨u,hu⟩:∃u,us[ks.length]? =some u:=⟨us[ks.length]'(by rw [HU.out];exact hlt),List.getElem?_eq_getElem _⟩
   obtain ⟨i1,i2,i3,i4⟩:=HIN.out _ r u hr hu
   obtain ⟨b,o,rfl⟩:=HS.out.addr (by omega)
   obtain ⟨cs,t,f,hA,hi,_⟩:=(HS.out.chg hc (by simp)).elem (by omega) hlt (YI Qia hr)
   have r1:cs[o+ks.length]? =some (.slice r.A r.n r.c):=by have:=hi 0 (by omega);simpa [re] using this
   have HI2:=Vh (i2.chg hc (by simp))
   have HI1:=Vh i1
   have HI3:=Vh i3
   have HI4:=Vh i4
   have HUU:=Vh hu
   have g1:(ks.length:Int)<(n:Int):=by omega
   have g0:(0:Int)≤(ks.length:Int):=by omega
   have HLT:=Vh hlt
   have oA:=old hA
   clear hr hu i1 i2 i3 i4 hi hlt hc
   go_wp2_with fail
   refine (cnew (us:=u) (ks.length:Int) room HI2.out HI1.out.symm (by rw [HI1.out];exact HI3.out) HI4.out ⟨by omega,by have:=HLT.out;have:=HN.out;omega⟩ H1.out H2.out).mono ?_
   rintro e w2 ⟨kb,pb,qb,rfl,k1,k2,k3,c2,hC⟩
   have hb2:=c2.keep HB.out (by simp)
   have ob2:=old hb2
   have op:p<wr.heap.size:=(old HB.out).lt
   have hset:=fillK_set HLT.out ⟨kb,pb,qb⟩
   have hsz:=fillK_size (Nat.le_of_lt HLT.out)
   have HNK2:=Vh (HNK.out.snoc c2 HC.out.size op HUU.out hC k1 k2 k3)
   have HC2:=Vh (HC.out.trans c2)
   have HSET:=Vh hset
   have HB2:=Vh hb2
   have hat:(sq pkO (Qdx ks n) [])[ks.length]? =some (.pointer none):=by
    unfold sq Qdx
    rw [Qi0,List.append_nil,List.getElem?_toArray,List.map_append,List.getElem?_append_right (by simp)]
    obtain ⟨m,hm⟩:∃m,n-ks.length=m+1:=⟨n-ks.length-1,by have:=HLT.out;omega⟩
    rw [hm,List.replicate_succ]
    simp [ptO]
   clear c2 hC k1 k2 k3 HNK HC HB hset hA r1 oA
   go_wp2_with fail
   have c3:Chg [p] w2 (w2.setCell ⟨p,ks.length,none⟩ (.pointer (some ⟨kb,0,none⟩))):=(Chg.refl [p] w2).setCell _ _ _ (.inl (by simp))
   go_roundw
   case rel=>
    refine ⟨ks++[⟨kb,pb,qb⟩],by have:=HLT.out;simp;omega,by rw [List.length_append];go_num,?_,HNK2.out.keep c3 (fun j q hq b hb=>?_),HC2.out.trans' c3 (by intro x hx;rw [List.mem_singleton] at hx;right;have:=HP.out;omega)⟩
    ·rw [heap_setCell,if_pos rfl,HB2.out,Qf,HSET.out]
    ·simp only [List.mem_singleton]
     rintro rfl
     exact (HNK2.out.km j q hq).1 hb
   case measure=>have:=HLT.out;simp [intOf];omega
  ·have:ks.length=n:=by have:=HK.out;omega
   have HL:=Vh this
   clear hlt hc
   rw [this]
   clear this
   go_wp2_with fail
   go_ret2
   exact ⟨p,ks,rfl,by have:=HP.out;omega,by rw [←fillK_full HL.out];exact HB.out,HL.out,HNK.out,HC.out⟩
end
section
theorem Cor.stop {w w':World} {kb pb qb:Nat} {Q:Co} (h:Cor w kb pb qb Q) (hc:Chg [kb] w w') (ho:w'.heap[kb]? =some (.cells (coc Q.id false Q.rg pb Q.pr.length Q.pc qb Q.wt) 124 (0,0))):Cor w' kb pb qb (Qfc Q):=
 ⟨ho,h.steps.keep hc (by simpa using h.kp.symm),h.buf.keep hc (by simpa using h.kq.symm),h.kp,h.kq,h.pq,⟨h.ok.h8,h.ok.pc,h.ok.np,h.ok.pr,h.ok.wt,h.ok.id,h.ok.pos.stop⟩⟩
theorem MaM.ownTo {W w w':World} {c:Cg} {mp cb sy:Nat} {F:List Nat} {ks:List Kp} {RA:Option Addr} {rcap:Nat} {M:Mac} (h:MaM W w c mp cb sy F ks RA rcap M) {fa:Nat} (hc:Chg [mp] w w') (ho:w'.heap[mp]? =some (.cells (mcc sy cb c.co RA M.rc.length rcap fa) 78 (0,0))):
 MaM W w' c mp cb sy F ks RA rcap {M with fa:=fa}:=by
 have hW:=h.new mp (by simp)
 refine {own:=ho,cors:=hc.keep h.cors (by simpa using h.ne.symm),kl:=h.kl,cl:=h.cl,sys:=Mem.keepL h.sys hc (by simpa using h.dm) (by simpa using hW),co:=fun j p Q hp hQ=>?_,rcs:=h.rcs.keep0 hc (fun h0 a ha e=>?_),ne:=h.ne,km:=h.km,kd:=h.kd,dm:=h.dm,dc:=h.dc,dk:=h.dk,rd:=h.rd,new:=h.new}
 ·have hm:=(h.km j p hp).1
  simp only [Kp.foot,List.mem_cons,Vn,or_false,not_or] at hm
  exact (h.co j p Q hp hQ).keep hc (by simpa using fun e=>hm.1 e.symm) (by simpa using fun e=>hm.2.1 e.symm) (by simpa using fun e=>hm.2.2 e.symm)
 ·simp only [List.mem_singleton] at e
  exact h.rd h0 a ha (by simp [e])
theorem MaM.renew {W w w7 w':World} {c:Cg} {mp cb sy:Nat} {F:List Nat} {ks:List Kp} {RA:Option Addr} {rcap:Nat} {M:Mac} (h:MaM W w c mp cb sy F ks RA rcap M) {cb' room:Nat} {ks':List Kp} {us:List (List Int)} {cs':List Co} (hk:NewK w w7 cb' room ks' us) (hcb:w.heap.size≤cb')
 (hb:w7.heap[cb']? =some (.cells (sq pke ks' []) 66 (0,0))) (hl:ks'.length=c.co) (hc7:Chg [] w w7) (hc:Chg [mp] w7 w') (ho:w'.heap[mp]? =some (.cells (mcc sy cb' c.co RA M.rc.length rcap M.fa) 78 (0,0)))
 (hcs:cs'.length=c.co) (hus:∀(j:Nat) (Q:Co),cs'[j]? =some Q→∃u,us[j]? =some u∧Q=co0 (j:Int) room u):MaM W w' c mp cb' sy F ks' RA rcap {M with cs:=cs'}:=by
 have hW:=h.allChg.size
 have om:=(old h.own).lt
 have hkk:=hk.keep hc (fun j p hp b hb e=>by
  simp only [List.mem_singleton] at e
  have:=((hk.km j p hp).2 b hb).1
  omega)
 have hold:∀b,w.heap.size≤b→b∉F:=fun b h1 h2=>by have:=h.oldF b h2;omega
 have h7:=h.keep0 hc7
 refine {own:=ho,cors:=hc.keep hb (by simp only [List.mem_singleton];omega),kl:=hl,cl:=hcs,sys:=Mem.keepL h7.sys hc (by simpa using h.dm) (by simpa using h.new mp (by simp)),co:=fun j p Q hp hQ=>?_,rcs:=h7.rcs.keep0 hc (fun h0 a ha e=>?_),ne:=by omega,km:=fun j p hp=>⟨fun hm=>?_,(hk.km j p hp).1⟩,kd:=hk.kd,dm:=h.dm,dc:=hold _ hcb,dk:=fun j p hp b hb=>hold b ((hk.km j p hp).2 b hb).1,rd:=fun h0 a ha=>?_,new:=fun b hb=>?_}
 ·obtain ⟨u,hu,rfl⟩:=hus j Q hQ
  exact hkk.co j p u hp hu
 ·simp only [List.mem_singleton] at e
  exact h.rd h0 a ha (by simp [e])
 ·have:=((hk.km j p hp).2 mp hm).1
  omega
 ·have h0':0<M.rc.length:=h0
  have h1:=h.rd h0 a ha
  have ho:a.block<w.heap.size:=by
   rcases h.rcs.2 with h2|⟨b,o,cs,t,f,h2,h3,_⟩
   ·omega
   ·rw [ha] at h2
    cases h2
    exact Z6 h3
  simp only [List.mem_cons,List.mem_append,not_or] at h1 ⊢
  refine ⟨h1.1,by omega,fun hm=>?_,h1.2.2.2⟩
  obtain ⟨j,p,hp,hb⟩:=Ja.1 hm
  have:=((hk.km j p hp).2 _ hb).1
  omega
 ·simp only [List.mem_cons] at hb
  rcases hb with rfl|rfl|hb
  ·exact h.new _ (by simp)
  ·omega
  ·obtain ⟨j,p,hp,hb⟩:=Ja.1 hb
   have:=((hk.km j p hp).2 _ hb).1
   omega
theorem MaM.oneCore {W w w':World} {c:Cg} {mp cb sy:Nat} {F:List Nat} {ks:List Kp} {RA:Option Addr} {rcap:Nat} {M:Mac} (h:MaM W w c mp cb sy F ks RA rcap M) {j:Nat} {p:Kp} {Q Q':Co} (hp:ks[j]? =some p) (hQ:M.cs[j]? =some Q) (hc:Chg [p.kb] w w') (hC:Cor w' p.kb p.pb p.qb Q'):MaM W w' c mp cb sy F ks RA rcap {M with cs:=M.cs.set j Q'}:=by
 have hcs:=(h.cs hp hQ).core (w':=w') (Q':=Q') (hc.mono (by simp)) hC
 have:=(h.coreTo hp hQ hcs (hc.mono (by simp)) (fun b hb=>.inl hb)).1
 exact this
def csF (c:Cg) (rc:List Int) (i:Nat):List Co:=(List.range c.co).map fun k=>if k=0 then co0 0 c.st rc else if k≤i then Qfc (co0 (k:Int) c.st []) else co0 (k:Int) c.st []
theorem csF_end (c:Cg) (rc:List Int) (h:1≤c.co):csF c rc (c.co-1)=(List.range c.co).map (Qiv c rc):=by
 unfold csF Qiv
 apply List.map_congr_left
 intro k hk
 rw [List.mem_range] at hk
 split
 ·rfl
 ·rw [if_pos (by omega)]
theorem csF_next (c:Cg) (rc:List Int) (i:Nat) (hi:i+1<c.co):(csF c rc i)[i+1]? =some (co0 ((i+1:Nat):Int) c.st [])∧(csF c rc i).set (i+1) (Qfc (co0 ((i+1:Nat):Int) c.st []))=csF c rc (i+1):=by
 refine ⟨?_,?_⟩
 ·unfold csF
  rw [List.getElem?_map,List.getElem?_range hi]
  simp only [Option.map_some]
  rw [if_neg (by omega),if_neg (by omega)]
 ·apply List.ext_getElem?
  intro k
  rw [List.getElem?_set]
  unfold csF
  split
  ·rename_i e
   subst e
   simp only [List.length_map,List.length_range,hi,if_true,List.getElem?_map,List.getElem?_range hi,Option.map_some]
   simp
  ·rename_i e
   rw [List.getElem?_map,List.getElem?_map]
   cases hk:(List.range c.co)[k]? with
   |none=>rfl
   |some x=>
    have hx:x=k:=by
     obtain ⟨h1,h2⟩:=Vg hk
     simpa using h2.symm
    subst hx
    simp only [Option.map_some,Option.some.injEq]
    split
    ·rfl
    ·split
     ·rename_i h1;rw [if_pos (by omega)]
     ·rename_i h1;rw [if_neg (by omega)]
theorem rf_info:(Tryz.prog.info? 26).map (fun i=>(i.zero,i.size,i.bytes))=some (some (.slice none 0 0),1,24):=by kernel_rfl
theorem run_make_rf (w:World) (n:Nat) (hn:n≤64):mkR Tryz.prog 25 (.int .i64 n) (.int .i64 n) w=.ok (.slice (some ⟨w.heap.size,0,none⟩) n n) (w.alloc (.cells (sq re (List.replicate n ⟨none,0,0⟩) []) 26)):=by
 obtain ⟨i0,hi0,hz0,hz1,hz2⟩:=info_parts rf_info
 have:=run_make (P:=Tryz.prog) w 25 26 i0 _ Tryz.underlying25 hi0 hz0 .i64 .i64 n n (by omega) (by omega) (by rw [hz2];omega) (by omega)
 simp only [Int.toNat_natCast,hz1] at this
 rw [←made_sq Qia (by decide)]
 exact this
theorem mcc_setFa (sy cb n:Nat) (RA:Option Addr) (rn rc fa fa':Nat):(mcc sy cb n RA rn rc fa).setIfInBounds 3 (.int .i64 (fa':Int))=mcc sy cb n RA rn rc fa':=rfl
theorem mcc_setCs (sy cb n:Nat) (RA:Option Addr) (rn rc fa cb':Nat):(mcc sy cb n RA rn rc fa).setIfInBounds 1 (.slice (some ⟨cb',0,none⟩) n n)=mcc sy cb' n RA rn rc fa:=rfl
theorem cgfield_st (c:Cg) (w:World):(Instr.field 23 (.agg c.cells) 6).run Tryz.prog w=.ok (.int .i64 c.st) w:=by kernel_rfl
attribute [local go_sem ↓] cgfield_st Zi
attribute [local go_sem] ZN
theorem eltPk:Elt Tryz.prog 71 66 1 8 (.pointer none) pke where
 slice:=Tryz.underlying71
 info:=pk_info
 zero:=rfl
 zone:=by intro v hv;simp [Value.cells] at hv;subst hv;rfl
 pos:=by omega
 len:=pke_len
 one:=pke_one
set_option maxHeartbeats 8000000 in
theorem afail {W w:World} {c:Cg} {mp cb sy n:Nat} {F:List Nat} {ks:List Kp} {RA:Option Addr} {rcap:Nat} {M:Mac} {cur:Nat→List Int} (h:MaM W w c mp cb sy F ks RA rcap M) (hI:MI c n M cur) (hn:n+1≤1000000000) (hT:Tabs W) (a:Ac):
 Calls Tryz.prog 57 #[.pointer (some ⟨mp,0,none⟩),.agg (acc a)] w (DoTo W w c mp RA rcap (mp::cb::(Xz ks++F)) (failA c M)):=by
 have c1:Chg [] w (w.alloc (.cells (acc a) 44)):=(Chg.refl [] w).alloc _
 have H1:=Vh (h.keep0 c1)
 have hm1:=H1.out.own
 have C1:=Vh c1
 have HI:=Vh hI
 have HFA:=Vh (show M.fa+1≤1000000001 by have:=hI.fa;omega)
 have gfa:(M.fa:Int)≤1000000000:=by have:=hI.fa;omega
 have gfa0:(0:Int)≤(M.fa:Int):=by omega
 clear h hI hT hn c1
 go_enter Tryz.func57,Tryz.ntmps57
 go_upto_region 1 with fail
 generalize hw1:w.alloc (.cells (acc a) 44)=w1 at *
 generalize hp1:w.heap.size=p1 at *
 clear hw1 hp1
 have om1:=old hm1
 go_upto_region 2 with fail
 have c2:Chg [mp] w1 (w1.setCell ⟨mp,3,none⟩ (.int .i64 ((M.fa:Int)+1))):=(Chg.refl [mp] w1).setCell _ _ _ (.inl (by simp))
 have hm2:(w1.setCell ⟨mp,3,none⟩ (.int .i64 ((M.fa:Int)+1))).heap[mp]? =some (.cells (mcc sy cb c.co RA M.rc.length rcap (M.fa+1)) 78 (0,0)):=by
  rw [heap_setCell,if_pos rfl,hm1,Qf,show ((M.fa:Int)+1)=((M.fa+1:Nat):Int) by omega,mcc_setFa]
 have H2:=Vh (H1.out.ownTo c2 hm2)
 have C2:=Vh (show Chg (mp::cb::(Xz ks++F)) w (w1.setCell ⟨mp,3,none⟩ (.int .i64 ((M.fa:Int)+1))) from (C1.out.mono (by simp)).trans (c2.mono (by simp)))
 generalize w1.setCell ⟨mp,3,none⟩ (.int .i64 ((M.fa:Int)+1))=w2 at *
 clear c2 hm1 om1 H1 C1
 have om2:=old hm2
 go_wp2_with fail
 refine (yfail H2.out.sys HI.out.inv).mono ?_
 rintro e w3 ⟨rfl,hd⟩
 obtain ⟨F3,h3,c3,hF3⟩:=H2.out.sysTo hd
 have H3:=Vh h3
 have C3:=Vh (C2.out.trans c3)
 have s2:=C2.out.size
 have HF3:=Vh (show ∀b∈mp::cb::(Xz ks++F3),b∈mp::cb::(Xz ks++F)∨w.heap.size≤b from fun b hb=>(hF3 b hb).imp id (fun h4=>Nat.le_trans s2 h4))
 have hm3:w3.heap[mp]? =some (.cells (mcc sy cb c.co RA M.rc.length rcap (M.fa+1)) 78 (0,0)):=h3.own
 have HCO:=Vh HI.out.inv.ok
 have hmk:=run_make_rf w3 c.co (by have:=HCO.out.co8;omega)
 have gco1:1≤(c.co:Int):=by have:=HCO.out.co1;omega
 have gco8:(c.co:Int)≤8:=by have:=HCO.out.co8;omega
 clear hd h3 c3 hF3 C2 s2 hm2 om2 H2
 have om3:=old hm3
 go_upto_region 4 with fail
 have c4:Chg [] w3 (w3.alloc (.cells (sq re (List.replicate c.co ⟨none,0,0⟩) []) 26)):=(Chg.refl [] w3).alloc _
 have hp4:(w3.alloc (.cells (sq re (List.replicate c.co ⟨none,0,0⟩) []) 26)).heap[w3.heap.size]? =some (.cells (sq re (List.replicate c.co ⟨none,0,0⟩) []) 26 (0,0)):=(MapKept.heap_alloc w3 _).1
 have HP4:=Vh (show ∀b∈mp::cb::(Xz ks++F3),b≠w3.heap.size from fun b hb e=>by have:=H3.out.oldAll b hb;omega)
 have HRP:=Vh (show 0<M.rc.length→∀a:Addr,RA=some a→a.block≠w3.heap.size from fun h0 a ha e=>by
  rcases H3.out.rcs.2 with h2|⟨b,o,cs,t,f,h2,h5,_⟩
  ·have:M.rc.length=0:=h2
   omega
  ·rw [ha] at h2
   cases h2
   have:=Z6 h5
   simp only at e
   omega)
 have H4:=Vh (H3.out.keep0 c4)
 have C4:=Vh (C3.out.trans (c4.mono (by simp)))
 have HSZ:=Vh (show w.heap.size≤w3.heap.size from C3.out.size)
 have HWZ:=Vh (show W.heap.size≤w3.heap.size from H3.out.allChg.size)
 have hm4:(w3.alloc (.cells (sq re (List.replicate c.co ⟨none,0,0⟩) []) 26)).heap[mp]? =some (.cells (mcc sy cb c.co RA M.rc.length rcap (M.fa+1)) 78 (0,0)):=H4.out.own
 generalize w3.alloc (.cells (sq re (List.replicate c.co ⟨none,0,0⟩) []) 26)=w4 at *
 generalize w3.heap.size=pp at *
 clear c4 hmk hm3 om3 H3 C3
 have om4:=old hm4
 have op4:=old hp4
 have npm:¬mp=pp:=HP4.out mp (by simp)
 have npm2:¬pp=mp:=fun e=>npm e.symm
 have h0at:(sq re (List.replicate c.co ⟨none,0,0⟩) [])[0]? =some (.slice none 0 0):=by
  have:=sq_re_at (r:=[]) (fs:=List.replicate c.co ⟨none,0,0⟩) (i:=0) (x:=⟨none,0,0⟩) (by rw [List.getElem?_replicate,if_pos (by have:=HCO.out.co1;omega)])
  simpa using this
 go_upto_region 5 with fail
 have c5:Chg [pp] w4 (w4.setCell ⟨pp,0,none⟩ (.slice RA M.rc.length rcap)):=(Chg.refl [pp] w4).setCell _ _ _ (.inl (by simp))
 have hp5:(w4.setCell ⟨pp,0,none⟩ (.slice RA M.rc.length rcap)).heap[pp]? =some (.cells (sq re (⟨RA,M.rc.length,rcap⟩::List.replicate (c.co-1) ⟨none,0,0⟩) []) 26 (0,0)):=by
  rw [heap_setCell,if_pos rfl,hp4,Qf,sq_re_set (by rw [List.length_replicate];have:=HCO.out.co1;omega)]
  obtain ⟨m,hm⟩:∃m,c.co=m+1:=⟨c.co-1,by have:=HCO.out.co1;omega⟩
  rw [hm,List.replicate_succ,List.set_cons_zero,Nat.add_sub_cancel]
 have H5:=Vh (H4.out.keepL c5 (by intro b hb;simp only [List.mem_singleton] at hb;subst hb;exact fun hm=>HP4.out _ hm rfl) (by intro b hb;simp only [List.mem_singleton] at hb;subst hb;exact HWZ.out) (by intro h0 a ha hm;simp only [List.mem_singleton] at hm;exact HRP.out h0 a ha hm))
 have C5:=Vh (C4.out.trans' c5 (by intro x hx;simp only [List.mem_singleton] at hx;subst hx;exact .inr HSZ.out))
 have hm5:(w4.setCell ⟨pp,0,none⟩ (.slice RA M.rc.length rcap)).heap[mp]? =some (.cells (mcc sy cb c.co RA M.rc.length rcap (M.fa+1)) 78 (0,0)):=H5.out.own
 generalize w4.setCell ⟨pp,0,none⟩ (.slice RA M.rc.length rcap)=w5 at *
 clear c5 hm4 om4 hp4 op4 h0at H4 C4
 have om5:=old hm5
 go_wp2_with fail
 refine (J8 H5.out.sys).mono ?_
 rintro e w6 ⟨rfl,k6⟩
 have H6:=Vh (H5.out.keep0 k6)
 have C6:=Vh (C5.out.trans (k6.mono (by simp)))
 have hm6:=k6.keep hm5 (by simp)
 have hp6:=k6.keep hp5 (by simp)
 have hs6:Sl w6 1 (some ⟨pp,0,none⟩) c.co (cat re (⟨RA,M.rc.length,rcap⟩::List.replicate (c.co-1) ⟨none,0,0⟩)):=by
  have hlen:(cat re (⟨RA,M.rc.length,rcap⟩::List.replicate (c.co-1) ⟨none,0,0⟩)).length=c.co*1:=by
   rw [Q9 Qia]
   simp
   have:=HCO.out.co1
   omega
  refine ⟨hlen,.inr ⟨pp,0,_,_,(0,0),rfl,hp6,?_⟩⟩
  rw [YF,List.append_nil,List.drop_zero,List.take_of_length_le (by rw [hlen];exact Nat.le_refl _)]
 have hin:∀(i:Nat) (r:Rf) (u:List Int),((⟨RA,M.rc.length,rcap⟩:Rf)::List.replicate (c.co-1) ⟨none,0,0⟩)[i]? =some r→(M.rc::List.replicate (c.co-1) [])[i]? =some u→r.n=u.length∧Sl w6 1 r.A r.n (u.map (Value.int .u64))∧u.length≤4096∧∀x∈u,0≤x∧x<18446744073709551616:=by
  intro i r u hr hu
  cases i with
  |zero=>
   cases hr;cases hu
   exact ⟨rfl,H6.out.rcs,HI.out.rc.1,HI.out.rc.2⟩
  |succ i=>
   rw [List.getElem?_cons_succ] at hr hu
   have e1:r=⟨none,0,0⟩:=List.eq_of_mem_replicate (List.mem_of_getElem? hr)
   have e2:u=[]:=List.eq_of_mem_replicate (List.mem_of_getElem? hu)
   subst e1 e2
   exact ⟨rfl,⟨rfl,.inl rfl⟩,by simp,by simp⟩
 have HS6:=Vh hs6
 have HIN:=Vh hin
 clear k6 hm5 om5 hp5 hs6 hin H5 C5 hp6
 have om6:=old hm6
 go_wp2_with fail
 refine (mcores (us:=M.rc::List.replicate (c.co-1) []) HS6.out (by rw [List.length_cons,List.length_replicate];have:=HCO.out.co1;omega) (by rw [List.length_cons,List.length_replicate];have:=HCO.out.co1;omega) HIN.out HCO.out.st1 HCO.out.st16 HCO.out.co8).mono ?_
 rintro e w7 ⟨cb2,ks2,rfl,hcb,hb7,hl7,hk7,k7⟩
 have hm7:=k7.keep hm6 (by simp)
 have om7:=old hm7
 have HCB:=Vh hcb
 have HB7:=Vh hb7
 have HL7:=Vh hl7
 have HK7:=Vh hk7
 have K7:=Vh k7
 clear hcb hb7 hl7 hk7 k7 hm6 om6 HS6 HIN
 go_upto_region 6 with fail
 have c8:Chg [mp] w7 (w7.setCell ⟨mp,1,none⟩ (.slice (some ⟨cb2,0,none⟩) c.co c.co)):=(Chg.refl [mp] w7).setCell _ _ _ (.inl (by simp))
 have hm8:(w7.setCell ⟨mp,1,none⟩ (.slice (some ⟨cb2,0,none⟩) c.co c.co)).heap[mp]? =some (.cells (mcc sy cb2 c.co RA M.rc.length rcap (M.fa+1)) 78 (0,0)):=by
  rw [heap_setCell,if_pos rfl,hm7,Qf,mcc_setCs]
 have H8:=Vh (H6.out.renew (cs':=csF c M.rc 0) HK7.out HCB.out HB7.out HL7.out K7.out c8 hm8 (by simp [csF]) (by
  intro j Q hQ
  unfold csF at hQ
  rw [List.getElem?_map] at hQ
  cases hr:(List.range c.co)[j]? with
  |none=>rw [hr] at hQ;cases hQ
  |some x=>
   have hx:x=j∧j<c.co:=by
    obtain ⟨h1,h2⟩:=Vg hr
    exact ⟨by simpa using h2.symm,by simpa using h1⟩
   obtain ⟨rfl,hj⟩:=hx
   rw [hr] at hQ
   simp only [Option.map_some,Option.some.injEq] at hQ
   cases x with
   |zero=>exact ⟨M.rc,rfl,by rw [←hQ];rfl⟩
   |succ x=>
    refine ⟨[],?_,?_⟩
    ·rw [List.getElem?_cons_succ,List.getElem?_replicate,if_pos (by omega)]
    ·rw [←hQ,if_neg (by omega),if_neg (by omega)]))
 have C8:=Vh ((C6.out.trans (K7.out.mono (by simp))).trans (c8.mono (by simp)))
 have HNW:=Vh (show ∀(j:Nat) (p:Kp),ks2[j]? =some p→∀b∈p.foot,w.heap.size≤b from fun j p hp b hb=>Nat.le_trans C6.out.size ((HK7.out.km j p hp).2 b hb).1)
 have HFE:=Vh (show ∀b∈mp::cb2::(Xz ks2++F3),b∈mp::cb::(Xz ks++F)∨w.heap.size≤b from fun b hb=>by
  simp only [List.mem_cons,List.mem_append] at hb
  rcases hb with hb|hb|hb|hb
  ·exact .inl (by simp [hb])
  ·exact .inr (by rw [hb];exact Nat.le_trans C6.out.size HCB.out)
  ·obtain ⟨j,p,hp,hb⟩:=Ja.1 hb
   exact .inr (HNW.out j p hp b hb)
  ·exact HF3.out b (by simp [hb]))
 generalize w7.setCell ⟨mp,1,none⟩ (.slice (some ⟨cb2,0,none⟩) c.co c.co)=w8 at *
 clear c8 hm7 om7 K7 C6 H6 HK7 HB7
 have om8:=old hm8
 obtain ⟨k1,hk1⟩:∃k1,c.co=k1+1:=⟨c.co-1,by have:=HCO.out.co1;omega⟩
 have hsl:=slR_tail (P:=Tryz.prog) eltPk (some ⟨cb2,0,none⟩) k1 c.co (by omega) w8
 rw [←hk1] at hsl
 have HK1:=Vh hk1
 have gk1:(k1:Int)≤7:=by have:=HCO.out.co8;omega
 have gk0:(0:Int)≤(k1:Int):=by omega
 clear hk1
 go_wp2_with fail
 clear hsl
 go_loopw [7,52] (fun _ i wr=>∃j:Nat,j≤k1∧i=.int .i64 (j:Int)∧MaM W wr c mp cb2 sy F3 ks2 RA rcap ⟨failM c M.S,csF c M.rc j,M.rc,M.fa+1⟩∧Chg (mp::cb::(Xz ks++F)) w wr) (fun _ i _=>k1-(intOf i).toNat)
 case atStart=>exact ⟨0,by omega,rfl,H8.out,C8.out⟩
 case round=>
  clear H8 C8
  obtain ⟨j,hj,rfl,hM,hC⟩:=hrel
  have HM:=Vh hM
  have HC:=Vh hC
  have HJ:=Vh hj
  clear hM hC hj
  by_cases hlt:j<k1
  ·have hco2:j+1<c.co:=by have:=HK1.out;omega
   obtain ⟨p,Q,hp,hQ⟩:=HM.out.kAt hco2
   obtain ⟨f1,f2⟩:=csF_next c M.rc j hco2
   have hQe:Q=co0 ((j+1:Nat):Int) c.st []:=by
    have h4:(csF c M.rc j)[j+1]? =some Q:=hQ
    rw [f1] at h4
    exact (Option.some.inj h4).symm
   subst hQe
   have hCr:=HM.out.co (j+1) p _ hp hQ
   have hat:(sq pke ks2 [])[1+j]? =some (.pointer (some ⟨p.kb,0,none⟩)):=by
    have:=JU pke_len hp [] 0 (by omega)
    rw [Nat.add_comm 1 j]
    simpa [pke] using this
   have hcb:=HM.out.cors
   have ocb:=old hcb
   have g0:(0:Int)≤(j:Int):=by omega
   have g1:(j:Int)<(k1:Int):=by omega
   have hbe:Qf4 1 (some ⟨cb2,0,none⟩) c.co=some ⟨cb2,1,none⟩:=by
    unfold Qf4
    rw [if_neg (by omega)]
    rfl
   rw [hbe]
   have HP:=Vh hp
   have HQ:=Vh hQ
   have HCR:=Vh hCr
   have HF2:=Vh f2
   have HLT:=Vh hlt
   clear hbe hp hQ f1 f2 hlt hco2
   go_wp2_with fail
   refine (cstop HCR.out.ok.h8 hCr.own).mono ?_
   rintro e w9 ⟨rfl,k9,hat9⟩
   have H9:=Vh (HM.out.oneCore HP.out HQ.out k9 (HCR.out.stop k9 hat9))
   have C9:=Vh (HC.out.trans' k9 (by intro x hx;simp only [List.mem_singleton] at hx;subst hx;exact .inr (HNW.out _ p HP.out _ (by simp [Kp.foot]))))
   clear k9 hat9 hCr hat hcb ocb HM HC
   go_wp2_with fail
   go_roundw
   case rel=>
    refine ⟨j+1,HLT.out,by go_num,?_,C9.out⟩
    rw [←HF2.out]
    exact H9.out
   case measure=>have:=HLT.out;simp [intOf];omega
  ·have:j=k1:=by have:=HJ.out;omega
   have hend:csF c M.rc j=(List.range c.co).map (Qiv c M.rc):=by
    rw [←csF_end c M.rc HCO.out.co1]
    congr 1
    have:=HK1.out
    omega
   rw [hend] at HM
   have g1:¬(j:Int)<(k1:Int):=by omega
   clear hlt this hend
   go_wp2_with fail
   go_ret
   exact HM.out.tellOne HC.out HFE.out evFail
end
section
theorem wideDg:Wide Tryz.prog 81 11:=⟨⟨_,Tryz.underlying81,by rfl⟩,by kernel_rfl⟩
theorem loadDg (x:Value):Instr.loadAt 81 x=Qdf 81 11 x:=rfl
theorem storeDg (x y:Value):Instr.storeAt 81 x y=Qar 81 11 x y:=rfl
def dgv:Array Value:=#[.nilFunc,.func (.func 48) #[] #[],.func (.func 49) #[] #[],.func (.func 50) #[] #[],.func (.func 51) #[] #[],.func (.func 52) #[] #[],.func (.func 53) #[] #[],.func (.func 54) #[] #[],.func (.func 55) #[] #[],.func (.func 56) #[] #[],.func (.func 57) #[] #[]]
theorem dgv_one:Qab dgv:=Qp [.nilFunc,.func (.func 48) #[] #[],.func (.func 49) #[] #[],.func (.func 50) #[] #[],.func (.func 51) #[] #[],.func (.func 52) #[] #[],.func (.func 53) #[] #[],.func (.func 54) #[] #[],.func (.func 55) #[] #[],.func (.func 56) #[] #[],.func (.func 57) #[] #[]] rfl
theorem dgv_lit:(#[.nilFunc,.func (.func 48) #[] #[],.func (.func 49) #[] #[],.func (.func 50) #[] #[],.func (.func 51) #[] #[],.func (.func 52) #[] #[],.func (.func 53) #[] #[],.func (.func 54) #[] #[],.func (.func 55) #[] #[],.func (.func 56) #[] #[],.func (.func 57) #[] #[]]:Array Value)=dgv:=rfl
attribute [local go_sem ↓] loadDg storeDg dgv_lit
attribute [local go_sem] wideDg dgv_one
theorem doings_any (w:World):Calls Tryz.prog 28 #[] w fun e w'=>e=.returned (.agg dgv)∧Chg [] w w':=by
 have hz:dgv.size=11:=rfl
 go_enter Tryz.func28,Tryz.ntmps28
 try dsimp only [List.append]
 go_wp2
 refine bodyPost_ret (v:=.agg dgv) ?_ (by rfl) ?_
 ·have hb:(w.alloc (.cells dgv 81)).heap[w.heap.size]? =some (.cells dgv 81 (0,0)):=by simp
  have:=run_loadVar_row (P:=Tryz.prog) (w.alloc (.cells dgv 81)) w.heap.size 81 81 dgv (0,0) _ hb Tryz.underlying81 rfl (by kernel_rfl)
  simp [results,asAddr,this]
 exact Tz2
theorem dgv_at1 (W:World):(Instr.index 81 (.agg dgv) (.int .i64 1)).run Tryz.prog W=.ok (.func (.func 48) #[] #[]) W:=by rfl
theorem dgv_at2 (W:World):(Instr.index 81 (.agg dgv) (.int .i64 2)).run Tryz.prog W=.ok (.func (.func 49) #[] #[]) W:=by rfl
theorem dgv_at3 (W:World):(Instr.index 81 (.agg dgv) (.int .i64 3)).run Tryz.prog W=.ok (.func (.func 50) #[] #[]) W:=by rfl
theorem dgv_at4 (W:World):(Instr.index 81 (.agg dgv) (.int .i64 4)).run Tryz.prog W=.ok (.func (.func 51) #[] #[]) W:=by rfl
theorem dgv_at5 (W:World):(Instr.index 81 (.agg dgv) (.int .i64 5)).run Tryz.prog W=.ok (.func (.func 52) #[] #[]) W:=by rfl
theorem dgv_at6 (W:World):(Instr.index 81 (.agg dgv) (.int .i64 6)).run Tryz.prog W=.ok (.func (.func 53) #[] #[]) W:=by rfl
theorem dgv_at7 (W:World):(Instr.index 81 (.agg dgv) (.int .i64 7)).run Tryz.prog W=.ok (.func (.func 54) #[] #[]) W:=by rfl
theorem dgv_at8 (W:World):(Instr.index 81 (.agg dgv) (.int .i64 8)).run Tryz.prog W=.ok (.func (.func 55) #[] #[]) W:=by rfl
theorem dgv_at9 (W:World):(Instr.index 81 (.agg dgv) (.int .i64 9)).run Tryz.prog W=.ok (.func (.func 56) #[] #[]) W:=by rfl
theorem dgv_at10 (W:World):(Instr.index 81 (.agg dgv) (.int .i64 10)).run Tryz.prog W=.ok (.func (.func 57) #[] #[]) W:=by rfl
theorem doing_of {W:World} {c:Cg} {mp cb sy n:Nat} {F:List Nat} {ks:List Kp} {RA:Option Addr} {rcap:Nat} {M:Mac} {cur:Nat→List Int} (hI:MI c n M cur) (hn:n+1≤1000000000) (hT:Tabs W) (a:Ac) (hk1:1≤a.kd) (hk2:a.kd≤10):∃K:Nat,
 (∀W,(Instr.index 81 (.agg dgv) (.int .i64 a.kd)).run Tryz.prog W=.ok (.func (.func K) #[] #[]) W)∧(∀args W,(callFunc K args).run Tryz.prog W=.ok (.enter K args) W)∧
 ∀w,MaM W w c mp cb sy F ks RA rcap M→Calls Tryz.prog K #[.pointer (some ⟨mp,0,none⟩),.agg (acc a)] w (DoTo W w c mp RA rcap (mp::cb::(Xz ks++F)) (doA c M a.kd a.co a.li)):=by
 have hk:a.kd=1∨a.kd=2∨a.kd=3∨a.kd=4∨a.kd=5∨a.kd=6∨a.kd=7∨a.kd=8∨a.kd=9∨a.kd=10:=by omega
 rcases hk with hk|hk|hk|hk|hk|hk|hk|hk|hk|hk
 ·exact ⟨_,by rw [hk];exact dgv_at1,XU Tryz.func48 (by kernel_rfl) rfl,fun w h=>by rw [show doA c M a.kd a.co a.li=execA c M a.co by simp [doA,hk]];exact aexec h hI hn hT a⟩
 ·exact ⟨_,by rw [hk];exact dgv_at2,XU Tryz.func49 (by kernel_rfl) rfl,fun w h=>by rw [show doA c M a.kd a.co a.li=Qfw c M a.co by simp [doA,hk]];exact adrain h hI hn hT a⟩
 ·exact ⟨_,by rw [hk];exact dgv_at3,XU Tryz.func50 (by kernel_rfl) rfl,fun w h=>by rw [show doA c M a.kd a.co a.li=(M.sys (upM c M.S a.co).1,[]) by simp [doA,hk]];exact aup h hI hn hT a⟩
 ·exact ⟨_,by rw [hk];exact dgv_at4,XU Tryz.func51 (by kernel_rfl) rfl,fun w h=>by rw [show doA c M a.kd a.co a.li=(M.sys (answerM c M.S a.co).1,[]) by simp [doA,hk]];exact aanswer h hI hn hT a⟩
 ·exact ⟨_,by rw [hk];exact dgv_at5,XU Tryz.func52 (by kernel_rfl) rfl,fun w h=>by rw [show doA c M a.kd a.co a.li=hearA c M a.co by simp [doA,hk]];exact ahear h hI hn hT a⟩
 ·exact ⟨_,by rw [hk];exact dgv_at6,XU Tryz.func53 (by kernel_rfl) rfl,fun w h=>by rw [show doA c M a.kd a.co a.li=pushA c M a.li by simp [doA,hk]];exact apush h hI hn hT a⟩
 ·exact ⟨_,by rw [hk];exact dgv_at7,XU Tryz.func54 (by kernel_rfl) rfl,fun w h=>by rw [show doA c M a.kd a.co a.li=(M.sys (evictM c M.S a.co a.li).1,[]) by simp [doA,hk]];exact aevict h hI hn hT a⟩
 ·exact ⟨_,by rw [hk];exact dgv_at8,XU Tryz.func55 (by kernel_rfl) rfl,fun w h=>by rw [show doA c M a.kd a.co a.li=dropMA c M a.li by simp [doA,hk]];exact adrop h hI hn hT a⟩
 ·exact ⟨_,by rw [hk];exact dgv_at9,XU Tryz.func56 (by kernel_rfl) rfl,fun w h=>by rw [show doA c M a.kd a.co a.li=(M.sys (drainM c M.S a.li).1,[]) by simp [doA,hk]];exact awrite h hI hn hT a⟩
 ·exact ⟨_,by rw [hk];exact dgv_at10,XU Tryz.func57 (by kernel_rfl) rfl,fun w h=>by rw [show doA c M a.kd a.co a.li=failA c M by simp [doA,hk]];exact afail h hI hn hT a⟩
section
variable {W w:World} {c:Cg} {mp cb sy n:Nat} {F:List Nat} {ks:List Kp} {RA:Option Addr} {rcap:Nat} {M:Mac} {cur:Nat→List Int} (h:MaM W w c mp cb sy F ks RA rcap M) (hI:MI c n M cur) (hn:n+1≤1000000000) (hT:Tabs W)
include h
theorem mdo_off (a:Ac) (ho:a.kd<1∨10<a.kd):Calls Tryz.prog 12 #[.pointer (some ⟨mp,0,none⟩),.agg (acc a)] w (DoTo W w c mp RA rcap (mp::cb::(Xz ks++F)) (doA c M a.kd a.co a.li)):=by
 rw [show doA c M a.kd a.co a.li=(M,[]) by simp only [doA];repeat' (rw [if_neg (by omega)])]
 have ha1:(w.alloc (.cells (acc a) 44)).heap[w.heap.size]? =some (.cells (acc a) 44 (0,0)):=by simp
 have c1:Chg [] w (w.alloc (.cells (acc a) 44)):=(Chg.refl [] w).alloc _
 rcases ho with ho|ho
 ·have t1:decide (a.kd<1)=true:=by simpa using ho
  go_enter Tryz.func12,Tryz.ntmps12
  go_wp2
  go_ret
  exact h.stayDo Cz15
 ·have t1:decide (a.kd<1)=false:=by simp;omega
  have t2:decide (a.kd > 10)=true:=by simp;omega
  go_enter Tryz.func12,Tryz.ntmps12
  go_wp2
  go_ret
  exact h.stayDo Cz15
include hI hn hT
theorem mdo (a:Ac):Calls Tryz.prog 12 #[.pointer (some ⟨mp,0,none⟩),.agg (acc a)] w (DoTo W w c mp RA rcap (mp::cb::(Xz ks++F)) (doA c M a.kd a.co a.li)):=by
 by_cases ho:a.kd<1∨10<a.kd
 ·exact mdo_off h a ho
 obtain ⟨K,hix,hen,hd⟩:=doing_of (W:=W) (mp:=mp) (cb:=cb) (sy:=sy) (F:=F) (ks:=ks) (RA:=RA) (rcap:=rcap) hI hn hT a (by omega) (by omega)
 have t1:decide (a.kd<1)=false:=by simp;omega
 have t2:decide (a.kd > 10)=false:=by simp;omega
 have ha1:(w.alloc (.cells (acc a) 44)).heap[w.heap.size]? =some (.cells (acc a) 44 (0,0)):=by simp
 have c1:Chg [] w (w.alloc (.cells (acc a) 44)):=(Chg.refl [] w).alloc _
 have H1:=Vh (h.keep0 c1)
 have C1:=Vh c1
 have HD:=Vh hd
 clear h hI hT hn c1 hd ho
 generalize hr:doA c M a.kd a.co a.li=r at *
 clear hr
 go_enter Tryz.func12,Tryz.ntmps12
 go_wp2_with fail
 generalize hw1:w.alloc (.cells (acc a) 44)=w1 at *
 generalize hp1:w.heap.size=p1 at *
 clear hw1 hp1
 have oa1:=old ha1
 clear t1 t2
 go_region_with (first
  |(go_at_call 28;refine (doings_any _).mono ?_;rintro e w' ⟨rfl,c5⟩;(have ha2:=c5.keep ha1 (by simp)))
  |(refine Calls.mono (HD.out _ ?_) ?_;(first |exact H1.out.keep0 c5|exact H1.out.keep0 (by first |exact c5|exact ((Chg.refl [] _).drew.trans c5)|exact c5.drew));rintro e w' hdo;(have HDO:=Vh hdo);obtain ⟨v,F',rfl,_⟩:=hdo))
 all_goals
  go_wp2_with fail
  go_ret
  exact DoTo.from C1.out (DoTo.from (Chg.trans ((Chg.refl [] w1).drew) c5) HDO.out)
end
end
section
attribute [local go_sem ↓] Qdn Qiz Qix Qiy
attribute [local go_sem] Qdi Qba Qd2 Qd1
theorem cg_co (c:Cg):c.cells[0]? =some (.int .i64 c.co):=rfl
theorem cg_st (c:Cg):c.cells[6]? =some (.int .i64 c.st):=rfl
attribute [local go_sem ↓] cg_co cg_st
def mue (v:Int):List Value:=[.int .u64 v]
theorem mu_info:(Tryz.prog.info? 46).map (fun i=>(i.zero,i.size,i.bytes))=some (some (.int .u64 0),1,8):=by kernel_rfl
theorem eltMu:Elt Tryz.prog 26 46 1 8 (.int .u64 0) mue where
 slice:=Tryz.underlying26
 info:=mu_info
 zero:=rfl
 zone:=by intro v hv;simp [Value.cells] at hv;subst hv;rfl
 pos:=by omega
 len:=fun _=>rfl
 one:=by intro x v hv;simp only [mue,List.mem_singleton] at hv;subst hv;rfl
theorem cat_mue (l:List Int):cat mue l=l.map (Value.int .u64):=by
 induction l with
 |nil=>rfl
 |cons a l ih=>rw [cat_cons,ih];rfl
theorem uclone (A:Option Addr) (n c:Nat) (xs:List Int) (w:World) (h:Sl w 1 A n (xs.map (Value.int .u64))) (hn:xs.length=n) (hn2:n≤4096):
 Calls Tryz.prog 27 #[.slice A n c] w fun e w'=>∃A' c',e=.returned (.slice A' n c')∧Sl w' 1 A' n (xs.map (Value.int .u64))∧(0<n→∀a,A'=some a→w.heap.size≤a.block)∧Chg [] w w':=by
 have hq:=fun w A=>Lib.run_eql_slice_nil (P:=Tryz.prog) w 26 46 A n c 0 0 Tryz.underlying26
 cases A with
 |none=>
  have h0:n=0:=by
   rcases h.2 with h0|⟨b,o,c,t,f,he,_⟩
   ·exact h0
   ·cases he
  have HS:=Vh h
  have H0:=Vh h0
  clear h h0
  go_enter Tryz.func27,Tryz.ntmps27
  go_wp2
  go_ret
  refine ⟨none,0,by rw [H0.out];rfl,HS.out,fun _ a ha=>(by cases ha),Chg.refl _ _⟩
 |some a=>
  have hr:∃(A':Option Addr) (c':Nat) (w':World),appR Tryz.prog 26 26 #[.slice (some ⟨w.heap.size,0,none⟩) 0 0,.slice (some a) n c] (w.alloc (.cells #[] 46))=.ok (.slice A' n c') w'∧Sl w' 1 A' n (xs.map (Value.int .u64))∧Chg [] w w'∧(0<n→∀a,A'=some a→w.heap.size≤a.block):=by
   have h':=h.chg ((Chg.refl [] w).alloc (.cells #[] 46)) (by simp)
   have c0:=(Chg.refl [] w).alloc (.cells #[] 46)
   generalize hw1:w.alloc (.cells #[] 46)=w1 at *
   have hz1:w.heap.size≤w1.heap.size:=c0.size
   obtain ⟨i0,hi0,hz0,hz1',hz2⟩:=info_parts eltMu.info
   rcases Nat.eq_zero_or_pos n with h0|h0
   ·subst h0
    exact ⟨_,_,_,Qea eltMu.slice hi0 w1 ⟨w.heap.size,0,none⟩ (some a) c,⟨by rw [List.length_map,hn],.inl rfl⟩,c0,fun h=>by omega⟩
   ·rw [←cat_mue] at h' ⊢
    have hc:=clone_elts (ty:=26) eltMu w1 ⟨w.heap.size,0,none⟩ (some a) n c xs h' hn (by omega) Cz14
    rw [←hz1'] at h'
    have hrun:=Qcl (ty:=26) eltMu.slice hi0 hz0 w1 ⟨w.heap.size,0,none⟩ (some a) n c _ h' h0 Cz14 (by rw [hz2];omega)
    obtain ⟨A',c',w',e1,e2,e3⟩:=hc
    refine ⟨A',c',w',e1,e2,c0.trans e3,fun _ b hb=>?_⟩
    rw [hrun] at e1
    cases e1
    cases hb
    exact hz1
  obtain ⟨A',c',w2,happ,hs2,hc2,hle⟩:=hr
  have HS2:=Vh hs2
  have HC2:=Vh hc2
  have HLE:=Vh hle
  clear h hs2 hc2 hn hle
  go_enter Tryz.func27,Tryz.ntmps27
  go_wp2
  go_ret
  exact ⟨A',c',rfl,HS2.out,HLE.out,HC2.out⟩
def ImgIs (c:Cg) (w:World) (A:Option Addr) (n:Nat) (ys:List Int):Prop:=
 (n=0∧ys=List.replicate (c.li*8) 0)∨(n=c.li∧∃zs:List Int,zs.length=c.li*8∧(∀x∈zs,0≤x)∧Sl w 8 A c.li (zs.map (Value.int .u64))∧ys=Jn zs c.vo)
theorem ImgIs.keep {c:Cg} {w w':World} {A:Option Addr} {n:Nat} {ys:List Int} (h:ImgIs c w A n ys) (hc:Chg [] w w'):ImgIs c w' A n ys:=by
 rcases h with h|⟨h1,zs,h2,h3,h4,h5⟩
 ·exact .inl h
 ·exact .inr ⟨h1,zs,h2,h3,h4.keep0 hc (fun _ _ _=>Vn),h5⟩
theorem mnew_of (W w:World) (c:Cg) (hc:c.Ok) (hW:Chg [] W w) (A:Option Addr) (n nc:Nat) (ys:List Int) (hi:ImgIs c w A n ys):Calls Tryz.prog 24 #[.agg c.cells,.slice A n nc] w fun e w'=>∃sy F,e=.returned (.tuple #[.pointer (some ⟨sy,0,none⟩),.int .i64 0])∧Mem W w' c sy F (List.replicate c.co (pt0 c)) (List.replicate c.li enE) [] ys∧Chg [] w w'∧∀k∈F,w.heap.size≤k:=by
 rcases hi with ⟨rfl,rfl⟩|⟨rfl,zs,h2,h3,h4,rfl⟩
 ·exact mnew_none W w c hc hW A nc
 ·exact mnew_img W w c hc hW A nc zs h4
def ProgsAre (w:World) (fs:List Rf) (us:List (List Int)):Prop:=∀(i:Nat) (r:Rf) (u:List Int),fs[i]? =some r→us[i]? =some u→r.n=u.length∧Sl w 1 r.A r.n (u.map (Value.int .u64))∧u.length≤4096∧∀x∈u,0≤x∧x<18446744073709551616
theorem ProgsAre.keep {w w':World} {fs:List Rf} {us:List (List Int)} (h:ProgsAre w fs us) (hc:Chg [] w w'):ProgsAre w' fs us:=fun i r u hr hu=>by
 obtain ⟨h1,h2,h3⟩:=h i r u hr hu
 exact ⟨h1,h2.keep0 hc (fun _ _ _=>Vn),h3⟩
def newA (c:Cg) (ys:List Int) (us:List (List Int)) (rc:List Int):Mac:=⟨⟨List.replicate c.co (pt0 c),List.replicate c.li enE,[],ys⟩,(List.range c.co).map (fun k:Nat=>co0 (k:Int) c.st (us.getD k [])),rc,0⟩
theorem MI.new {c:Cg} (hc:c.Ok) {ys:List Int} {us:List (List Int)} {rc:List Int} (hy:ys.length=c.li*8) (hy0:∀x∈ys,0≤x) (hr:rc.length≤4096∧∀u∈rc,0≤u∧u<18446744073709551616):MI c 0 (newA c ys us rc) (fun i=>Go.Proofs.YtlidfghgjjffaaaGreatDoor.ln ys i):=by
 refine ⟨Inv.fresh c hc ys hy,?_,?_,by simp [newA],fun j Q hQ=>?_,hr,Nat.le_refl _⟩
 ·intro i x hx
  exact hy0 x (mem_ln hx)
 ·exact ⟨hy0,fun e he x hx=>by rw [List.eq_of_mem_replicate he] at hx;exact enE_pos x hx⟩
 ·have hQ':((List.range c.co).map (fun k:Nat=>co0 (k:Int) c.st (us.getD k [])))[j]? =some Q:=hQ
  rw [List.getElem?_map] at hQ'
  have hj:j<c.co:=by
   have:=(Vg hQ).1
   simpa [newA] using this
  rw [List.getElem?_range hj] at hQ'
  simp only [Option.map_some,Option.some.injEq] at hQ'
  subst hQ'
  refine ⟨rfl,⟨by intro x hx;simp [co0] at hx;omega,by intro e he;simp [co0] at he⟩,rfl,?_,by simp [co0],by simp [co0]⟩
  exact (fl_fresh c _ _ j).symm
theorem build_mac (w:World) (sy cb n:Nat) (RA:Option Addr) (rn rc:Nat):(Instr.build 78 #[(0,.pointer (some ⟨sy,0,none⟩)),(1,.slice (some ⟨cb,0,none⟩) n n),(2,.slice RA rn rc)]).run Tryz.prog w=.ok (.agg (mcc sy cb n RA rn rc 0)) w:=by kernel_rfl
attribute [local go_sem ↓] build_mac
def MadeMac (W w:World) (c:Cg) (M:Mac) (e:Ending) (w':World):Prop:=∃mp RA rcap Ft,e=.returned (.tuple #[.pointer (some ⟨mp,0,none⟩),.int .i64 0])∧MaS W w' c mp RA rcap Ft M∧Chg [] w w'∧∀b∈Ft,w.heap.size≤b
theorem newMaM {W w w2 w3 w4 w5:World} {c:Cg} {sy cb:Nat} {F:List Nat} {ks:List Kp} {us:List (List Int)} {rc ys:List Int} {RA:Option Addr} {rcap:Nat} (hW:Chg [] W w) (hc:c.Ok) (h3:Mem W w3 c sy F (List.replicate c.co (pt0 c)) (List.replicate c.li enE) [] ys) (hcb:w2.heap.size≤cb) (hb3:w3.heap[cb]? =some (.cells (sq pke ks []) 66 (0,0)))
 (hl:ks.length=c.co) (hk:NewK w2 w3 cb c.st ks us) (hFo:∀b∈F,b<w2.heap.size) (hFn:∀b∈F,w.heap.size≤b) (hz:w.heap.size≤w2.heap.size∧w2.heap.size≤w3.heap.size) (k5:Chg [] w3 w5) (hr:Sl w5 1 RA rc.length (rc.map (Value.int .u64))) (hra:0<rc.length→∀a,RA=some a→w4.heap.size≤a.block) (z4:w3.heap.size≤w4.heap.size) (hu:us.length=c.co):
 MaM W (w5.alloc (.cells (mcc sy cb c.co RA rc.length rcap 0) 78)) c w5.heap.size cb sy F ks RA rcap (newA c ys us rc):=by
 have k6:=(Chg.refl [] w5).alloc (.cells (mcc sy cb c.co RA rc.length rcap 0) 78)
 have k36:=k5.trans k6
 have hcbl:=Z6 hb3
 have z5:=k5.size
 have zW:=hW.size
 have hkb:∀(j:Nat) (p:Kp),ks[j]? =some p→∀b∈p.foot,w2.heap.size≤b∧b<w3.heap.size:=fun j p hp=>(hk.km j p hp).2
 refine {own:=by simp [newA],cors:=k36.keep hb3 (by simp),kl:=hl,cl:=by simp [newA],sys:=Mem.keep h3 k36,co:=fun j p Q hp hQ=>?_,rcs:=Sl.keep0 hr k6 (fun _ _ _=>Vn),ne:=by omega,km:=fun j p hp=>⟨fun hm=>by have:=(hkb j p hp _ hm).2;omega,(hk.km j p hp).1⟩,kd:=hk.kd,dm:=fun hm=>by have:=hFo _ hm;omega,dc:=fun hm=>by have:=hFo _ hm;omega,dk:=fun j p hp b hb hm=>by have:=hFo _ hm;have:=(hkb j p hp b hb).1;omega,rd:=fun h0 a ha=>?_,new:=fun b hb=>?_}
 ·have hQ':((List.range c.co).map (fun k:Nat=>co0 (k:Int) c.st (us.getD k [])))[j]? =some Q:=hQ
  rw [List.getElem?_map] at hQ'
  have hj:j<c.co:=by rw [←hl];exact (Vg hp).1
  rw [List.getElem?_range hj] at hQ'
  simp only [Option.map_some,Option.some.injEq] at hQ'
  subst hQ'
  have hj2:j<us.length:=by omega
  exact (hk.keep k36 (by simp)).co j p _ hp (by rw [List.getElem?_eq_getElem hj2,List.getD_eq_getElem?_getD,List.getElem?_eq_getElem hj2];rfl)
 ·have h1:=hra h0 a ha
  have h0':0<rc.length:=h0
  have ho:a.block<w5.heap.size:=by
   rcases hr.2 with h2|⟨b,o,cs,t,f,h2,h5,_⟩
   ·omega
   ·rw [ha] at h2
    cases h2
    exact Z6 h5
  simp only [List.mem_cons,List.mem_append,not_or]
  refine ⟨by omega,by omega,fun hm=>?_,fun hm=>by have:=hFo _ hm;omega⟩
  obtain ⟨j,p,hp,hb⟩:=Ja.1 hm
  have:=(hkb j p hp _ hb).2
  omega
 ·simp only [List.mem_cons] at hb
  rcases hb with rfl|rfl|hb
  ·omega
  ·omega
  ·obtain ⟨j,p,hp,hb⟩:=Ja.1 hb
   have:=(hkb j p hp _ hb).1
   omega
set_option maxHeartbeats 8000000 in
theorem mcnew {W w:World} {c:Cg} (hc:c.Ok) (hW:Chg [] W w) (hT:Tabs W) {A:Option Addr} {n nc:Nat} {ys:List Int} (hi:ImgIs c w A n ys) {PA:Option Addr} {pcap:Nat} {fs:List Rf} {us:List (List Int)} (hs:Sl w 1 PA c.co (cat re fs)) (hf:fs.length=c.co) (hu:us.length=c.co) (hp:ProgsAre w fs us)
 {RA:Option Addr} {rcap:Nat} {rc:List Int} (hr:Sl w 1 RA rc.length (rc.map (Value.int .u64))) (hr2:rc.length≤4096∧∀u∈rc,0≤u∧u<18446744073709551616):
 Calls Tryz.prog 9 #[.agg c.cells,.slice A n nc,.slice PA c.co pcap,.slice RA rc.length rcap] w (MadeMac W w c (newA c ys us rc)):=by
 have C1:=Vh ((Chg.refl [] w).alloc (.cells c.cells 23))
 have r1:(w.alloc (.cells c.cells 23)).heap[w.heap.size]? =some (.cells c.cells 23 (0,0)):=by simp
 have HW:=Vh hW
 have HC:=Vh hc
 have HI:=Vh (hi.keep C1.out)
 have HS:=Vh (hs.keep0 C1.out (fun _ _ _=>Vn))
 have HF:=Vh hf
 have HU:=Vh hu
 have HP:=Vh (hp.keep C1.out)
 have HR:=Vh (hr.keep0 C1.out (fun _ _ _=>Vn))
 have HR2:=Vh hr2
 have HT:=Vh hT
 clear hc hW hi hs hf hu hp hr hr2 hT
 go_enter Tryz.func9,Tryz.ntmps9
 try dsimp only [List.append]
 go_wp2_with fail
 generalize w.alloc (.cells c.cells 23)=w1 at *
 generalize hp1:w.heap.size=p1 at *
 have o1:=old r1
 refine (mnew_of W w1 c HC.out (HW.out.trans C1.out) A n nc ys HI.out).mono ?_
 rintro e w2 ⟨sy,F,rfl,hm,k2,hF⟩
 have r2:=k2.keep r1 (by simp)
 have o2:=old r2
 have C2:=Vh (C1.out.trans k2)
 have HM:=Vh hm
 have HFN:=Vh (show ∀b∈F,w.heap.size≤b from fun b hb=>Nat.le_trans C1.out.size (hF b hb))
 have HS2:=Vh (HS.out.keep0 k2 (fun _ _ _=>Vn))
 have HP2:=Vh (HP.out.keep k2)
 have HR3:=Vh (HR.out.keep0 k2 (fun _ _ _=>Vn))
 clear hm k2 hF r1 o1 C1 HS HP HR HI
 go_wp2_with fail
 refine (mcores (us:=us) HS2.out HF.out HU.out HP2.out HC.out.st1 HC.out.st16 HC.out.co8).mono ?_
 rintro e w3 ⟨cb,ks,rfl,hcb,hb3,hl3,hk3,k3⟩
 have r3:=k3.keep r2 (by simp)
 have o3:=old r3
 have C3:=Vh (C2.out.trans k3)
 have hs23:=k3.size
 have hs12:=C2.out.size
 have H3:=Vh (show Mem W w3 c sy F (List.replicate c.co (pt0 c)) (List.replicate c.li enE) [] ys from Mem.keep HM.out k3)
 have HFO:=Vh (show ∀b∈F,b<w2.heap.size from Mem.old HM.out)
 have HR4:=Vh (HR3.out.keep0 k3 (fun _ _ _=>Vn))
 have HCB:=Vh hcb
 have HB3:=Vh hb3
 have HL3:=Vh hl3
 have HK3:=Vh hk3
 have HZ:=Vh (show w.heap.size≤w2.heap.size∧w2.heap.size≤w3.heap.size from ⟨hs12,hs23⟩)
 clear hcb hb3 hl3 hk3 k3 HM HR3 r2 o2 C2 HS2 HP2 hs23 hs12
 go_wp2_with fail
 refine (cnew (us:=rc) 0 c.st HR4.out rfl HR2.out.1 HR2.out.2 (by omega) HC.out.st1 HC.out.st16).mono ?_
 rintro e w4 ⟨kb,pb,qb,rfl,_,_,_,k4,_⟩
 have r4:=k4.keep r3 (by simp)
 have o4:=old r4
 have C4:=Vh (C3.out.trans k4)
 have HR5:=Vh (HR4.out.keep0 k4 (fun _ _ _=>Vn))
 have K4:=Vh k4
 clear k4 r3 o3 C3 HR4
 go_wp2_with fail
 refine (uclone RA rc.length rcap rc w4 HR5.out rfl HR2.out.1).mono ?_
 rintro e w5 ⟨RA',rcap',rfl,hr5,hra,k5⟩
 have r5:=k5.keep r4 (by simp)
 have o5:=old r5
 have C5:=Vh (C4.out.trans k5)
 have HR6:=Vh hr5
 have HRA:=Vh hra
 have K5:=Vh (K4.out.trans k5)
 have Z4:=Vh K4.out.size
 have Z5:=Vh k5.size
 clear k5 r4 o4 C4 HR5 hr5 hra K4
 go_wp2_with fail
 go_ret2
 refine ⟨w5.heap.size,RA',rcap',_,rfl,⟨cb,sy,F,ks,rfl,newMaM HW.out HC.out H3.out HCB.out HB3.out HL3.out HK3.out HFO.out HFN.out HZ.out K5.out HR6.out HRA.out Z4.out HU.out⟩,C5.out.alloc _,fun b hb=>?_⟩
 have z1:=C5.out.size
 have z2:=HZ.out
 have z3:=HCB.out
 simp only [List.mem_cons,List.mem_append] at hb
 rcases hb with rfl|rfl|hb|hb
 ·exact z1
 ·omega
 ·obtain ⟨j,p,hp,hb⟩:=Ja.1 hb
  have:=((HK3.out.km j p hp).2 b hb).1
  omega
 ·exact HFN.out b hb
end
section
attribute [local go_sem ↓] Qdn Qiz Qix Qiy ZH Zt XG
attribute [local go_sem] Qdi Qba Qd2 Qd1 ZE QV Xc ZG ZL ZV
attribute [local simp] QV
def restI (st:Int):Bool:=st==1||st==2||st==3
def doneC (Q:Co):Bool:=!Q.ru&&Q.es.length==0&&Q.wt==0
def stillP (x:Pt):Bool:=x.up.length==0&&x.an.length==0&&x.dn.length==0
def idleP (x:Pt):Bool:=(live x.s.1).all (fun s=>restI s.st)
def Qh9 (M:Mac) (j:Nat):Bool:=match M.cs[j]? with
 |some Q=>doneC Q&&stillP (atP M.S.ps j)&&idleP (atP M.S.ps j)
 |none=>true
def JR (c:Cg) (M:Mac):Bool:=(List.range c.co).all (Qh9 M)&&(List.range c.li).all (fun k:Nat=>(entA c M.S (k:Int)).bu==0)
theorem matRest (st:Int) (w:World):Calls Tryz.prog 68 #[.int .i64 st] w fun e w'=>e=.returned (.bool (restI st))∧w=w':=by
 by_cases h1:st=1
 ·subst h1
  go_enter Tryz.func68,Tryz.ntmps68
  go_wp2
  go_ret
  exact ⟨rfl,rfl⟩
 by_cases h2:st=2
 ·subst h2
  go_enter Tryz.func68,Tryz.ntmps68
  go_wp2
  go_ret
  exact ⟨rfl,rfl⟩
 by_cases h3:st=3
 ·subst h3
  go_enter Tryz.func68,Tryz.ntmps68
  go_wp2
  go_ret
  exact ⟨rfl,rfl⟩
 have e1:restI st=false:=by simp [restI,h1,h2,h3]
 rw [e1]
 go_enter Tryz.func68,Tryz.ntmps68
 go_wp2
 go_ret
 exact ⟨rfl,rfl⟩
theorem mdone {W w:World} {c:Cg} {mp cb sy n:Nat} {F:List Nat} {ks:List Kp} {RA:Option Addr} {rcap:Nat} {M:Mac} {cur:Nat→List Int} (h:MaM W w c mp cb sy F ks RA rcap M) {j:Nat} {p:Kp} {Q:Co} (hp:ks[j]? =some p) (hQ:M.cs[j]? =some Q):
 Calls Tryz.prog 34 #[.pointer (some ⟨p.kb,0,none⟩)] w fun e w'=>e=.returned (.bool (doneC Q))∧Chg [] w w':=by
 have HCS:=Vh (h.cs hp hQ)
 clear h hp hQ
 unfold doneC
 have hrn:=Qa7 HCS.out.co.own
 cases hru:Q.ru
 ·rw [hru] at hrn
  have HRU:=Vh hrn
  clear hrn
  by_cases hl:Q.es.length=0
  ·have hl2:(Q.es.length==0)=true:=by simp [hl]
   rw [hl2]
   by_cases hw:Q.wt=0
   ·have hw2:(Q.wt==0)=true:=by simp [hw]
    rw [hw2]
    go_enter Tryz.func34,Tryz.ntmps34
    go_wp2_with (first
     |(go_at_call 63;refine HRU.out.mono ?_;rintro e w' ⟨rfl,rfl⟩)
     |(go_at_call 64;refine (ebuffer HCS.out).mono ?_;rintro e w2 ⟨b,rfl,_,c2,_⟩;have HCS2:=Vh (HCS.out.keep0 c2);have C2:=Vh c2;clear c2)
     |(go_at_call 65;refine (cwaits HCS2.out.co.ok.h8 HCS2.out.co.own).mono ?_;rintro e w' ⟨rfl,rfl⟩))
    go_ret
    exact ⟨rfl,C2.out⟩
   ·have hw2:(Q.wt==0)=false:=by simp [hw]
    have hw3:((Q.wt:Int)==0)=false:=beq_eq_false_iff_ne.2 (by omega)
    rw [hw2]
    go_enter Tryz.func34,Tryz.ntmps34
    go_wp2_with (first
     |(go_at_call 63;refine HRU.out.mono ?_;rintro e w' ⟨rfl,rfl⟩)
     |(go_at_call 64;refine (ebuffer HCS.out).mono ?_;rintro e w2 ⟨b,rfl,_,c2,_⟩;have HCS2:=Vh (HCS.out.keep0 c2);have C2:=Vh c2;clear c2)
     |(go_at_call 65;refine (cwaits HCS2.out.co.ok.h8 HCS2.out.co.own).mono ?_;rintro e w' ⟨rfl,rfl⟩))
    go_ret
    exact ⟨rfl,C2.out⟩
  ·have hl2:(Q.es.length==0)=false:=by simp [hl]
   rw [hl2]
   have hl3:¬(Q.es.length:Int)=0:=by omega
   have hl4:((Q.es.length:Int)==0)=false:=beq_eq_false_iff_ne.2 (by omega)
   go_enter Tryz.func34,Tryz.ntmps34
   go_wp2_with (first
    |(go_at_call 63;refine HRU.out.mono ?_;rintro e w' ⟨rfl,rfl⟩)
    |(go_at_call 64;refine (ebuffer HCS.out).mono ?_;rintro e w2 ⟨b,rfl,_,c2,_⟩;have HCS2:=Vh (HCS.out.keep0 c2);have C2:=Vh c2;clear c2))
   go_ret
   exact ⟨rfl,C2.out⟩
 ·rw [hru] at hrn
  have HRU:=Vh hrn
  clear hrn
  go_enter Tryz.func34,Tryz.ntmps34
  go_wp2_with (first
   |(go_at_call 63;refine HRU.out.mono ?_;rintro e w' ⟨rfl,rfl⟩))
  go_ret
  exact ⟨rfl,Chg.refl _ _⟩
theorem mstill {W w:World} {c:Cg} {mp cb sy n:Nat} {F:List Nat} {ks:List Kp} {RA:Option Addr} {rcap:Nat} {M:Mac} {cur:Nat→List Int} (h:MaM W w c mp cb sy F ks RA rcap M) (hI:MI c n M cur) {j:Nat} (hj:j<c.co):
 Calls Tryz.prog 35 #[.pointer (some ⟨mp,0,none⟩),.int .i64 (j:Int)] w fun e w'=>e=.returned (.bool (stillP (atP M.S.ps j)))∧Chg [] w w':=by
 have hat:M.S.ps[j]? =some (atP M.S.ps j):=atP_mem (by rw [hI.inv.co];exact hj)
 have hq:=hI.roomy j hj
 have hm:=h.own
 have om:=old hm
 have HQ:=Vh (mqueues_ok h.sys j _ hat (by omega) (by omega) (by omega))
 clear h hI hat hq
 generalize atP M.S.ps j=x at *
 unfold stillP
 by_cases h1:x.up.length=0
 ·have h1':(x.up.length==0)=true:=by simp [h1]
  rw [h1']
  by_cases h2:x.an.length=0
  ·have h2':(x.an.length==0)=true:=by simp [h2]
   rw [h2']
   by_cases h3:x.dn.length=0
   ·have h3':(x.dn.length==0)=true:=by simp [h3]
    rw [h3']
    exact Tz36
   ·have h3':(x.dn.length==0)=false:=by simp [h3]
    rw [h3']
    have h3'':((x.dn.length:Int)==0)=false:=beq_eq_false_iff_ne.2 (by omega)
    exact Tz36
  ·have h2':(x.an.length==0)=false:=by simp [h2]
   rw [h2']
   have h2'':((x.an.length:Int)==0)=false:=beq_eq_false_iff_ne.2 (by omega)
   exact Tz36
 ·have h1':(x.up.length==0)=false:=by simp [h1]
  rw [h1']
  have h1'':((x.up.length:Int)==0)=false:=beq_eq_false_iff_ne.2 (by omega)
  exact Tz36
theorem Qf8 {α:Type} {p:α→Bool} {xs:List α} {k:Nat} {x:α} (h:(xs.take k).all p=true) (hx:xs[k]? =some x):(xs.take (k+1)).all p=p x:=by
 rw [List.take_add_one,hx,List.all_append,h]
 simp
theorem all_of_not {α:Type} {p:α→Bool} {xs:List α} {k:Nat} {x:α} (hx:xs[k]? =some x) (h:p x=false):xs.all p=false:=by
 rw [List.all_eq_false]
 exact ⟨x,List.mem_of_getElem? hx,by simp [h]⟩
theorem midle {W w:World} {c:Cg} {mp cb sy n:Nat} {F:List Nat} {ks:List Kp} {RA:Option Addr} {rcap:Nat} {M:Mac} {cur:Nat→List Int} (h:MaM W w c mp cb sy F ks RA rcap M) (hI:MI c n M cur) {j:Nat} (hj:j<c.co):
 Calls Tryz.prog 36 #[.pointer (some ⟨mp,0,none⟩),.int .i64 (j:Int)] w fun e w'=>e=.returned (.bool (idleP (atP M.S.ps j)))∧Chg [] w w':=by
 have hat:M.S.ps[j]? =some (atP M.S.ps j):=atP_mem (by rw [hI.inv.co];exact hj)
 have hm:=h.own
 have om:=old hm
 have HQ:=Vh (mslots_ok h.sys j _ hat)
 have HL:=Vh (show (live (atP M.S.ps j).s.1).length≤64 from Nat.le_trans (live_le _) (hI.inv.pt j hj).aj.good.len64)
 clear h hI hat
 unfold idleP
 generalize live (atP M.S.ps j).s.1=xs at *
 have gl:(xs.length:Int)≤64:=by have:=HL.out;omega
 go_enter Tryz.func36,Tryz.ntmps36
 go_wp2_with fail
 refine HQ.out.mono ?_
 rintro e w2 ⟨A,cp,rfl,hs,c2⟩
 have HS:=Vh hs
 have C2:=Vh c2
 clear hs c2 hm om HQ
 go_wp2_with fail
 go_loopw [6,14] (fun _ i wr=>∃k:Nat,k≤xs.length∧i=.int .i64 k∧(xs.take k).all (fun s=>restI s.st)=true∧Chg [] w2 wr) (fun _ i _=>xs.length-(intOf i).toNat)
 case atStart=>exact ⟨0,by omega,rfl,by simp,Chg.refl _ _⟩
 case round=>
  obtain ⟨k,hk,rfl,ha,hc⟩:=hrel
  have HA:=Vh ha
  have HC:=Vh hc
  clear ha hc
  by_cases hlt:k<xs.length
  ·obtain ⟨x,hx⟩:∃x,xs[k]? =some x:=⟨xs[k]'hlt,List.getElem?_eq_getElem _⟩
   have g3:(k:Int)<(xs.length:Int):=by omega
   have g0:(0:Int)≤(k:Int):=by omega
   obtain ⟨b0,o0,hA⟩:=HS.out.addr (by omega)
   subst hA
   obtain ⟨cA,tA,fA,hA,_,hpart⟩:=HS.out.elem (by omega) hlt (YI Slt.len hx)
   obtain ⟨hin,hpt⟩:=hpart 0 11 (by omega)
   have hAr:=HC.out.keep hA (by simp)
   have oA:=old hAr
   rw [Nat.add_zero] at hin hpt
   rw [show ((Slt.enc x).drop 0 |>.take 11).toArray=slc x from by rw [List.drop_zero,List.take_of_length_le (by rw [Slt.len];omega)];rfl] at hpt
   have HLT:=Vh hlt
   have HX:=Vh hx
   cases hr:restI x.st
   ·have HB:=Vh (show xs.all (fun s=>restI s.st)=false from all_of_not hx hr)
    clear hx hlt hA hpart hk
    go_wp2_with (go_at_call 68;refine (matRest _ _).mono ?_;rw [hr];rintro e w' ⟨rfl,rfl⟩)
    go_ret
    exact ⟨by rw [HB.out];rfl,C2.out.trans (HC.out.alloc _)⟩
   ·have HN:=Vh ((Qf8 HA.out hx).trans hr)
    clear hx hlt hA hpart hk
    go_wp2_with (go_at_call 68;refine (matRest _ _).mono ?_;rw [hr];rintro e w' ⟨rfl,rfl⟩)
    go_roundw
    case rel=>exact ⟨k+1,HLT.out,by go_num,HN.out,HC.out.alloc _⟩
    case measure=>have:=HLT.out;simp [intOf];omega
  ·have hkk:k=xs.length:=by omega
   have HE:=Vh (show xs.all (fun s=>restI s.st)=true by have:=HA.out;rw [hkk,List.take_length] at this;exact this)
   subst hkk
   clear hlt hk
   go_wp2_with fail
   go_ret
   exact ⟨by rw [HE.out];rfl,C2.out.trans HC.out⟩
end
section
theorem ec_field5 (e:En) (w:World):(Instr.field 107 (.agg (ec e)) 5).run Tryz.prog w=.ok (.int .i64 e.bu) w:=by
 obtain ⟨he,di,l,ow,sh,bu,by_,wa,hl⟩:=e
 match l,hl with
 |[a0,a1,a2,a3,a4,a5,a6,a7],_=>
  show (Instr.field 107 (.agg #[.bool he,.bool di,.int .u64 a0,.int .u64 a1,.int .u64 a2,.int .u64 a3,.int .u64 a4,.int .u64 a5,.int .u64 a6,.int .u64 a7,.int .i64 ow,.int .u8 (mi sh),.int .i64 bu,.int .i64 by_,.int .u8 (mi wa)]) 5).run Tryz.prog w=.ok (.int .i64 bu) w
  kernel_rfl
attribute [local go_sem ↓] ec_field5 cgfield_li
theorem Qes {p:Nat→Bool} {k:Nat} (h:∀j,j<k→p j=true) (hp:p k=true):∀j,j<k+1→p j=true:=fun j hj=>by
 by_cases e:j=k
 ·rw [e];exact hp
 ·exact h j (by omega)
theorem range_all {p:Nat→Bool} {n:Nat} (h:∀j,j<n→p j=true):(List.range n).all p=true:=by
 rw [List.all_eq_true]
 intro x hx
 exact h x (List.mem_range.1 hx)
theorem Qfh {p:Nat→Bool} {n k:Nat} (hk:k<n) (h:p k=false):(List.range n).all p=false:=by
 rw [List.all_eq_false]
 exact ⟨k,List.mem_range.2 hk,by simp [h]⟩
set_option maxHeartbeats 8000000 in
theorem mquiet {W w:World} {c:Cg} {mp cb sy n:Nat} {F:List Nat} {ks:List Kp} {RA:Option Addr} {rcap:Nat} {M:Mac} {cur:Nat→List Int} (h:MaM W w c mp cb sy F ks RA rcap M) (hI:MI c n M cur):
 Calls Tryz.prog 17 #[.pointer (some ⟨mp,0,none⟩)] w fun e w'=>e=.returned (.bool (JR c M))∧Chg [] w w':=by
 have HI:=Vh hI
 have H:=Vh h
 have hm:=h.own
 have om:=old hm
 have gco:(c.co:Int)≤8:=by have:=hI.inv.ok.co8;omega
 have gli:(c.li:Int)≤64:=by have:=hI.inv.ok.li64;omega
 clear hI h
 go_enter Tryz.func17,Tryz.ntmps17
 go_wp2_with fail
 go_loopw [3,4,13] (fun _ _ i wr=>∃k:Nat,k≤c.co∧i=.int .i64 k∧(∀j,j<k→Qh9 M j=true)∧Chg [] w wr) (fun _ _ i _=>c.co-(intOf i).toNat)
 case atStart=>exact ⟨0,by omega,rfl,fun j hj=>by omega,Chg.refl _ _⟩
 case round=>
  obtain ⟨k,hk,rfl,ha,hc⟩:=hrel
  have HA:=Vh ha
  have HC:=Vh hc
  have HK:=Vh (H.out.keep0 hc)
  have hmr:=HC.out.keep hm (by simp)
  have omr:=old hmr
  clear ha hc hm om
  by_cases hlt:k<c.co
  ·obtain ⟨p,Q,hp,hQ⟩:=HK.out.kAt hlt
   have g3:(k:Int)<(c.co:Int):=by omega
   have g0:(0:Int)≤(k:Int):=by omega
   have hcb:=HK.out.cors
   have ocb:=old hcb
   have hpk:(sq pke ks [])[k]? =some (.pointer (some ⟨p.kb,0,none⟩)):=by
    unfold sq
    rw [cat_pke,List.append_nil,List.getElem?_toArray,List.getElem?_map,hp]
    rfl
   have HLT:=Vh hlt
   have HP:=Vh hp
   have HQ:=Vh hQ
   have hra:Qh9 M k=(doneC Q&&stillP (atP M.S.ps k)&&idleP (atP M.S.ps k)):=by unfold Qh9;rw [hQ]
   have hd1:=mdone (n:=n) (cur:=cur) HK.out hp hQ
   cases e1:doneC Q
   ·rw [e1] at hd1
    have HD1:=Vh hd1
    have HB:=Vh (show JR c M=false by unfold JR;rw [Qfh hlt (by rw [hra,e1];rfl)];rfl)
    clear hlt hk hp hQ hd1 hra
    go_wp2_with (go_at_call 34;refine HD1.out.mono ?_;rintro e w2 ⟨rfl,c2⟩;have C2:=Vh c2;clear c2)
    go_ret
    exact ⟨by rw [HB.out];rfl,HC.out.trans C2.out⟩
   rw [e1] at hd1
   have HD1:=Vh hd1
   have hst:=fun w2 (k2:Chg [] wr w2)=>mstill (HK.out.keep0 k2) HI.out hlt
   cases e2:stillP (atP M.S.ps k)
   ·rw [e2] at hst
    have HST:=Vh hst
    have HB:=Vh (show JR c M=false by unfold JR;rw [Qfh hlt (by rw [hra,e1,e2];rfl)];rfl)
    clear hlt hk hp hQ hd1 hst hra
    go_wp2_with (first
     |(go_at_call 34;refine HD1.out.mono ?_;rintro e w2 ⟨rfl,c2⟩;have C2:=Vh c2;clear c2)
     |(go_at_call 35;refine (HST.out _ C2.out).mono ?_;rintro e w3 ⟨rfl,c3⟩;have C3:=Vh (C2.out.trans c3);clear c3))
    go_ret
    exact ⟨by rw [HB.out];rfl,HC.out.trans C3.out⟩
   rw [e2] at hst
   have HST:=Vh hst
   have hid':=fun w2 (k2:Chg [] wr w2)=>midle (HK.out.keep0 k2) HI.out hlt
   cases e3:idleP (atP M.S.ps k)
   ·rw [e3] at hid'
    have HID:=Vh hid'
    have HB:=Vh (show JR c M=false by unfold JR;rw [Qfh hlt (by rw [hra,e1,e2,e3];rfl)];rfl)
    clear hlt hk hp hQ hd1 hst hid' hra
    go_wp2_with (first
     |(go_at_call 34;refine HD1.out.mono ?_;rintro e w2 ⟨rfl,c2⟩;have C2:=Vh c2;clear c2)
     |(go_at_call 35;refine (HST.out _ C2.out).mono ?_;rintro e w3 ⟨rfl,c3⟩;have C3:=Vh (C2.out.trans c3);clear c3)
     |(go_at_call 36;refine (HID.out _ C3.out).mono ?_;rintro e w4 ⟨rfl,c4⟩;have C4:=Vh (C3.out.trans c4);clear c4))
    go_ret
    exact ⟨by rw [HB.out];rfl,HC.out.trans C4.out⟩
   rw [e3] at hid'
   have HID:=Vh hid'
   have HN:=Vh (Qes HA.out (show Qh9 M k=true by rw [hra,e1,e2,e3];rfl))
   clear hlt hk hp hQ hd1 hst hid' hra
   go_wp2_with (first
    |(go_at_call 34;refine HD1.out.mono ?_;rintro e w2 ⟨rfl,c2⟩;have C2:=Vh c2;clear c2)
    |(go_at_call 35;refine (HST.out _ C2.out).mono ?_;rintro e w3 ⟨rfl,c3⟩;have C3:=Vh (C2.out.trans c3);clear c3)
    |(go_at_call 36;refine (HID.out _ C3.out).mono ?_;rintro e w4 ⟨rfl,c4⟩;have C4:=Vh (C3.out.trans c4);clear c4))
   go_roundw
   case rel=>exact ⟨k+1,HLT.out,by go_num,HN.out,HC.out.trans C4.out⟩
   case measure=>have:=HLT.out;simp [intOf];omega
  ·have hkk:k=c.co:=by omega
   subst hkk
   clear hlt hk
   have HALL:=Vh (range_all HA.out)
   go_wp2_with fail
   refine (J8 HK.out.sys).mono ?_
   rintro e w5 ⟨rfl,c5⟩
   have HM5:=Vh (HK.out.keep0 c5)
   have C5:=Vh (HC.out.trans c5)
   have hm5:=HM5.out.own
   have om5:=old hm5
   clear c5 hmr omr HK HA
   go_wp2_with fail
   go_loopw [5,40] (fun _ i wq=>∃k:Nat,k≤c.li∧i=.int .i64 k∧(∀j:Nat,j<k→((entA c M.S (j:Int)).bu==0)=true)∧Chg [] w5 wq) (fun _ i _=>c.li-(intOf i).toNat)
   case atStart=>exact ⟨0,by omega,rfl,fun j hj=>by omega,Chg.refl _ _⟩
   case round=>
    obtain ⟨k,hk,rfl,ha,hc⟩:=hrel
    have HA:=Vh ha
    have HCQ:=Vh hc
    have HK:=Vh (HM5.out.keep0 hc)
    have hmr:=HCQ.out.keep hm5 (by simp)
    have omr:=old hmr
    clear ha hc hm5 om5
    by_cases hlt:k<c.li
    ·have g3:(k:Int)<(c.li:Int):=by omega
     have HLT:=Vh hlt
     have HE:=Vh (mentry HK.out.sys (k:Int))
     by_cases hbu:(entA c M.S (k:Int)).bu=0
     ·have HN:=Vh (Qes (p:=fun j:Nat=>(entA c M.S (j:Int)).bu==0) HA.out (by simp [hbu]))
      clear hlt hk
      go_wp2_with (go_at_call 38;refine HE.out.mono ?_;rintro e w6 ⟨rfl,c6⟩;have C6:=Vh c6;clear c6)
      go_roundw
      case rel=>exact ⟨k+1,HLT.out,by go_num,HN.out,HCQ.out.trans C6.out⟩
      case measure=>have:=HLT.out;simp [intOf];omega
     ·have HB:=Vh (show JR c M=false by unfold JR;rw [Qfh (p:=fun j:Nat=>(entA c M.S (j:Int)).bu==0) hlt (by simp [hbu]),Bool.and_false])
      have hbu2:((entA c M.S (k:Int)).bu==0)=false:=beq_eq_false_iff_ne.2 hbu
      clear hlt hk
      go_wp2_with (go_at_call 38;refine HE.out.mono ?_;rintro e w6 ⟨rfl,c6⟩;have C6:=Vh c6;clear c6)
      go_ret
      exact ⟨by rw [HB.out];rfl,C5.out.trans (HCQ.out.trans C6.out)⟩
    ·have hkk:k=c.li:=by omega
     subst hkk
     clear hlt hk
     have HB:=Vh (show JR c M=true by unfold JR;rw [HALL.out,range_all HA.out];rfl)
     go_wp2_with fail
     go_ret
     exact ⟨by rw [HB.out];rfl,C5.out.trans HCQ.out⟩
end
end Go.Proofs.YtlidfghgjjffaaaGreatDoor
