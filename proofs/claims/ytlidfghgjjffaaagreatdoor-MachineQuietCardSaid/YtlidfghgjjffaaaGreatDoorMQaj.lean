/- Texts of the walk, one behind the other: Mfj Word Wordb Mfk Mga Mgb Mgc Dpv Dpw Mgd Mge. No condition. -/
import Derived.Test.YtlidfghgjjffaaaGreatDoorMQaa
import Derived.Test.YtlidfghgjjffaaaGreatDoorMQab
import Derived.Test.YtlidfghgjjffaaaGreatDoorMQag
import Derived.Test.YtlidfghgjjffaaaGreatDoorMQah
import Derived.Test.YtlidfghgjjffaaaGreatDoorMQai
import Derived.BigQuiet
import Derived.Deep.Cut
import Derived.Deep.CutBlock
import Derived.Deep.CutRange
import Derived.Deep.DeepCutAuto
import Derived.Deep.QuietTactic
import Derived.Deep.RegionHeld3
import Derived.Deep.RegionWith
import Derived.Lib.Hide
import Derived.Test.YtlidfghgjjffaaaGreatDoorChecked
import Derived.WalkKit
namespace Go.Proofs.YtlidfghgjjffaaaGreatDoor
open Go.RowKit
set_option linter.unusedVariables false
set_option maxHeartbeats 1000000
set_option maxRecDepth 100000
attribute [local go_sem ↓] Qv QF Qx QP QG Qs Zg Q7 ZH Zt Qk Qh heap_alloc Ql heap_setCell Qc XG XP XO Zi ZP Zu Xk ZQ Xq Xp Xy Xx
attribute [local go_sem] Qb Qa Qe Qi Qd Qg Qf Qt Zk Zf ZE QB Qw QN QL QM Q6 QJ QA Qr QD QX QI Qq QC Qp Qj Qo Qn Qm Zj Zv lit8 QV Xc ZG ZL ZV Zn ZM Xj ZN QH ZO Zx Zy QZ QY Zb XB
attribute [local simp ↓] Qk Qh heap_alloc Ql heap_setCell Qc
attribute [local simp] Qb Qa Qe Qi Qd Qg Qf Qt Qr Qj Qo Qn Qm QV QH QZ QY Zb QD
attribute [local go_sem ↓] Qa3 Qa4 Qa2 Qa1 Qa6 Qa5 Qa0 Qbg
attribute [local go_sem] Y9 Qax Y8 XQ XT Zh Jo Yf Qbh Z9 Zp Zo Zm Zr Zq Zl Zd Zc ZD ZA Jj Yc
attribute [local simp] Zh ZA Zp Zo Zm Zr Zq Zl Zd Zc ZD
attribute [local go_sem ↓] Jl Yb Jk Ya Yg
attribute [local go_sem] Jh Jg Ye Ji QQ QU YH
attribute [local simp] Yg QQ QU QD Z9
attribute [local go_sem ↓] YL Y0 Y1 J5
attribute [local simp] YL
section
theorem Qfu (z:Lay) (c:Cg):(z.enc c).toArray[0]? =some (.int .i64 c.co)∧(z.enc c).toArray[1]? =some (.int .i64 c.li)∧(z.enc c).toArray[3]? =some (.int .i64 c.se)∧(z.enc c).toArray[4]? =some (.int .i64 c.wa):=⟨rfl,rfl,rfl,rfl⟩
theorem enc_fresh (z:Lay) (c:Cg) (po en:Nat):((z.enc c).toArray.setIfInBounds 8 (.slice (some ⟨po,0,none⟩) c.co c.co)).setIfInBounds 9 (.slice (some ⟨en,0,none⟩) c.li c.li)=(({z with po:=po,en:=en}:Lay).enc c).toArray:=rfl
theorem mem_all {z:Lay} {L:List (Po×Pt)} {k:Nat}:k∈z.all L↔(k=z.sy∨k=z.q∨k=z.g∨k=z.b∨k=z.po∨k=z.en∨(k=z.be∧z.be≠z.q))∨k∈feet z.po L:=by
 unfold Lay.all Lay.base
 simp only [List.mem_append,List.mem_cons,Vn,or_false,Yd]
 simp only [or_assoc]
theorem Qie {W w w':World} {c:Cg} {z:Lay} {es:List Ent} {xs:List Int} {C:Array Value} (he:∀po en:Nat,(C.setIfInBounds 8 (.slice (some ⟨po,0,none⟩) c.co c.co)).setIfInBounds 9 (.slice (some ⟨en,0,none⟩) c.li c.li)=(({z with po:=po,en:=en}:Lay).enc c).toArray) (hW:Chg [] W w) (hs:w.heap[z.sy]? =some (.cells C 103 (0,0))) (hsW:W.heap.size≤z.sy) (h6:z.ks.length=6)
 (hm:Sys W w z.q z.be z.g z.b c.li c.vo c.qu es xs) (hd:([z.sy,z.q,z.g,z.b]++opt z.q z.be).Nodup) (hf:Fresh W w c z.sy C w'):
 ∃po en L,Msd W w' c {z with po:=po,en:=en} L (List.replicate c.li enE) es xs∧ports L=List.replicate c.co (pt0 c)∧Chg [z.sy] w w'∧∀k∈({z with po:=po,en:=en}:Lay).all L,k∈[z.sy,z.q,z.g,z.b]++opt z.q z.be∨w.heap.size≤k:=by
 obtain ⟨po,en,L,h1,h2,h3,h4,h5,hp,hn,hl,hc⟩:=hf
 have hq:=hm.2.1.oldq.lt
 have hbe:=hm.2.1.olde.lt
 have hg:=hm.2.2.1.oldg
 have hb:=hm.2.2.1.oldb
 have hsy:=Z6 hs
 have hWp:=hW.size
 have hmem:∀k∈({z with po:=po,en:=en}:Lay).all L,k∈[z.sy,z.q,z.g,z.b]++opt z.q z.be∨w.heap.size≤k:=by
  intro k hk
  rw [mem_all] at hk
  simp only [List.mem_append,List.mem_cons,Vn,or_false,Yd]
  dsimp only at hk
  rcases hk with (h|h|h|h|h|h|h)|h
  ·simp [h]
  ·simp [h]
  ·simp [h]
  ·simp [h]
  ·exact .inr (by rw [h];exact hl po (by simp))
  ·exact .inr (by rw [h];exact hl en (by simp))
  ·exact .inl (.inr h)
  ·exact .inr (hl k (by simp [h]))
 have n1:=(List.nodup_append.1 hd).1
 simp only [List.nodup_cons,List.mem_cons,Vn,or_false,not_or] at n1
 have n2:z.be≠z.sy:=by
  intro e
  by_cases hbq:z.be=z.q
  ·exact n1.1.1 (by rw [←e,hbq])
  ·exact (List.nodup_append.1 hd).2.2 z.sy (by simp) z.sy (Yd.2 ⟨e.symm,hbq⟩) rfl
 have hcw:=hW.trans' hc (fun x hx=>.inr (by rw [Vs hx];exact hsW))
 have hold:∀k∈[z.sy,z.q,z.g,z.b]++opt z.q z.be,k<w.heap.size:=by
  intro k hk
  simp only [List.mem_append,List.mem_cons,Vn,or_false,Yd] at hk
  rcases hk with (h|h|h|h)|h
  ·omega
  ·omega
  ·omega
  ·omega
  ·omega
 refine ⟨po,en,L,⟨hcw,by rw [h1,he],h6,⟨hcw,hm.2.1.keep hc (by simp;exact fun e=>n1.1.1 e.symm) (by simpa using n2),hm.2.2.1.keep hc (by simp;exact fun e=>n1.1.2.1 e.symm) (by simp;exact fun e=>n1.1.2.2 e.symm),hm.2.2.2⟩,h2,h3,h4,by simp,h5,?_,?_⟩,hp,hc,hmem⟩
 ·have e1:({z with po:=po,en:=en}:Lay).all L=[z.sy,z.q,z.g,z.b]++([po,en]++(opt z.q z.be++feet po L)):=by
   unfold Lay.all Lay.base;simp
  have e2:([z.sy,z.q,z.g,z.b]++([po,en]++(opt z.q z.be++feet po L))).Perm (([z.sy,z.q,z.g,z.b]++opt z.q z.be)++(po::en::feet po L)):=by
   rw [List.append_assoc]
   refine List.Perm.append_left _ ?_
   rw [←List.append_assoc]
   refine (List.Perm.append_right _ List.perm_append_comm).trans ?_
   rw [List.append_assoc]
   rfl
  rw [e1,e2.nodup_iff,List.nodup_append]
  refine ⟨hd,hn,fun a ha b hb e=>?_⟩
  have:=hold a ha
  have:=hl b hb
  omega
 ·intro k hk
  rcases hmem k hk with h|h
  ·have hn2:=hm.2.2.2.2
   simp only [List.mem_append,List.mem_cons,Vn,or_false,Yd] at h
   rcases h with (h|h|h|h)|h
   ·omega
   ·omega
   ·omega
   ·omega
   ·omega
  ·omega
section
variable {W:World} {c:Cg} {z:Lay} {L:List (Po×Pt)} {en:List En} {es:List Ent} {xs:List Int}
theorem zfail_ok (w:World) (h:Msd W w c z L en es xs) (hc:c.Ok):Calls Tryz.prog 89 #[.pointer (some ⟨z.sy,0,none⟩)] w fun e w'=>e=.returned (.tuple #[])∧∃z' L',MTo W w c z L z' L' (List.replicate c.li enE) [] (Jn (over xs es) c.vo) w'∧z'.sy=z.sy∧ports L'=List.replicate c.co (pt0 c):=by
 have rS:=h.sys
 have HH:=Vh h
 have HG:=Vh (sys_fail h.mem)
 have HC:=Vh hc
 clear h hc
 go_enter Tryz.func89,Tryz.ntmps89
 try dsimp only [List.append]
 go_wp2_with fail
 refine HG.out.mono ?_
 rintro e w2 ⟨rfl,be',hs2,hc2,hb2⟩
 have HM2:=Vh (HH.out.memory hs2 hc2 hb2)
 clear hs2 hc2 hb2 rS HG
 have n6:=HM2.out.1.nodupB
 have hf:=Qij W w2 c HC.out z.sy ((({z with be:=be'}:Lay)).enc c).toArray HM2.out.1.chg (HH.out.new _ (Lay.inB (Lay.beB (by simp)))) HM2.out.1.sys (Qfu _ c).1 (Qfu _ c).2.1 (Qfu _ c).2.2.1 (Qfu _ c).2.2.2 _ _ (Y0 _ c) (Y1 _ c)
 have HF:=Vh hf
 have HN:=Vh n6
 clear hf n6
 go_wp2_with fail
 refine HF.out.mono ?_
 rintro e w3 ⟨rfl,hfr⟩
 have hnd:([z.sy,z.q,z.g,z.b]++opt z.q be').Nodup:=by
  have h1:=HN.out
  unfold Lay.base at h1
  refine h1.sublist ?_
  refine List.Sublist.append ?_ (List.Sublist.refl _)
  exact (List.Sublist.refl [z.sy,z.q,z.g,z.b]).trans (List.sublist_append_left [z.sy,z.q,z.g,z.b] [z.po,z.en])
 obtain ⟨po,en',L',hm3,hp3,hc3,hk3⟩:=Qie (z:={z with be:=be'}) (fun po en=>enc_fresh {z with be:=be'} c po en) HM2.out.1.chg HM2.out.1.sys (HH.out.new _ (Lay.inB (Lay.beB (by simp)))) HM2.out.1.six HM2.out.1.mem hnd hfr
 have HR:=Vh (show MTo W w2 c {z with be:=be'} L {z with be:=be',po:=po,en:=en'} L' (List.replicate c.li enE) [] (Jn (over xs es) c.vo) w3 from ⟨hm3,hc3.mono (fun x hx=>.inl (by rw [Vs hx];exact Lay.inB (Lay.beB (by simp)))),fun k hk=>by
  rcases hk3 k hk with h1|h1
  ·refine .inl (mem_all.2 (.inl ?_))
   simp only [List.mem_append,List.mem_cons,Vn,or_false,Yd] at h1
   dsimp only at h1 ⊢
   rcases h1 with (h|h|h|h)|h<;>simp [h]
  ·exact .inr h1⟩)
 have HP3:=Vh hp3
 clear hfr hm3 hp3 hc3 hk3 hnd
 go_wp2_with fail
 go_end0
 exact ⟨rfl,_,L',HM2.out.trans HR.out,rfl,HP3.out⟩
end
end
end Go.Proofs.YtlidfghgjjffaaaGreatDoor
namespace Go.Proofs.YtlidfghgjjffaaaGreatDoor
open Go.RowKit
set_option linter.unusedVariables false
section
set_option maxRecDepth 100000
theorem Zs (n a b:Int) (w:World) (h0:a≤n) (h1:n≤b):Calls Tryz.prog 72 #[.int .i64 n,.int .i64 a,.int .i64 b] w fun e w'=>e=.returned (.bool true)∧w=w':=by
 go_enter Tryz.func72,Tryz.ntmps72
 go_wp2
 go_ret
 exact ⟨rfl,rfl⟩
theorem Qas (n a b:Int) (w:World) (h0:¬(a≤n∧n≤b)):Calls Tryz.prog 72 #[.int .i64 n,.int .i64 a,.int .i64 b] w fun e w'=>e=.returned (.bool false)∧w=w':=by
 by_cases h:a≤n
 ·have h7:decide (n≤b)=false:=by simp;omega
  clear h0
  go_enter Tryz.func72,Tryz.ntmps72
  go_wp2
  go_ret
  exact ⟨rfl,rfl⟩
 ·have h7:decide (a≤n)=false:=by simp;omega
  clear h0
  go_enter Tryz.func72,Tryz.ntmps72
  go_wp2
  go_ret
  exact ⟨rfl,rfl⟩
theorem at_ok (n a:Int) (w:World) (h0:1≤n) (h1:n≤64) (g0:0≤a) (g1:a % 8=0) (g2:a / 64<n):Calls Tryz.prog 139 #[.int .i64 n,.int .u64 a] w fun e w'=>e=.returned (.tuple #[.int .i64 (a / 64),.int .i64 (a % 64 / 8),.int .i64 0])∧w=w':=by
 have g3:a<4096:=by omega
 have t1:(a % 8 !=0)=false:=by simp [g1]
 have t2:decide (n≤a / 64)=false:=by simp;omega
 clear g1
 go_enter Tryz.func139,Tryz.ntmps139
 go_wp2_with (go_at_call 72;refine (Zs _ _ _ _ h0 h1).mono ?_;rintro e w' ⟨rfl,rfl⟩)
 go_ret3
 exact ⟨rfl,rfl⟩
theorem at_odd (n a:Int) (w:World) (h0:1≤n) (h1:n≤64) (g0:0≤a) (g1:a % 8≠0):Calls Tryz.prog 139 #[.int .i64 n,.int .u64 a] w fun e w'=>e=.returned (.tuple #[.int .i64 0,.int .i64 0,.int .i64 12])∧w=w':=by
 have t1:(a % 8 !=0)=true:=by simp [g1]
 clear g1
 go_enter Tryz.func139,Tryz.ntmps139
 go_wp2_with (go_at_call 72;refine (Zs _ _ _ _ h0 h1).mono ?_;rintro e w' ⟨rfl,rfl⟩)
 go_ret3
 exact ⟨rfl,rfl⟩
end
section
set_option maxRecDepth 100000
theorem Qhf (n:Int) (w:World) (h:n=1∨n=2∨n=4∨n=8):Calls Tryz.prog 73 #[.int .i64 n] w fun e w'=>e=.returned (.bool true)∧w=w':=by
 obtain rfl|rfl|rfl|rfl:=h
 all_goals
  go_enter Tryz.func73,Tryz.ntmps73
  go_wp2
  go_ret
  exact ⟨rfl,rfl⟩
theorem sets_no (n:Int) (w:World) (h:¬(n=1∨n=2∨n=4∨n=8)):Calls Tryz.prog 73 #[.int .i64 n] w fun e w'=>e=.returned (.bool false)∧w=w':=by
 have e1:(n==1)=false:=by simp;omega
 have e2:(n==2)=false:=by simp;omega
 have e3:(n==4)=false:=by simp;omega
 have e4:(n==8)=false:=by simp;omega
 clear h
 go_enter Tryz.func73,Tryz.ntmps73
 go_wp2
 go_ret
 exact ⟨rfl,rfl⟩
theorem good_0 (c0 c1 c2 c3 c4 c5 c6:Int) (w:World) (h:¬(1≤c0∧c0≤8)):Calls Tryz.prog 40 #[.agg #[.int .i64 c0,.int .i64 c1,.int .i64 c2,.int .i64 c3,.int .i64 c4,.int .i64 c5,.int .i64 c6]] w fun e w'=>e=.returned (.bool false)∧w'=w.alloc (.cells #[.int .i64 c0,.int .i64 c1,.int .i64 c2,.int .i64 c3,.int .i64 c4,.int .i64 c5,.int .i64 c6] 23):=by
 have H:=Vh h
 clear h
 go_enter Tryz.func40,Tryz.ntmps40
 go_wp2_with (first
  |(go_at_call_of 72 (Value.int .i64 c0);refine (Qas _ _ _ _ H.out).mono ?_;rintro e w' ⟨rfl,rfl⟩))
 go_ret
 exact ⟨rfl,rfl⟩
theorem good_1 (c0 c1 c2 c3 c4 c5 c6:Int) (w:World) (p0:1≤c0) (q0:c0≤8) (h:¬(2≤c1∧c1≤64)):Calls Tryz.prog 40 #[.agg #[.int .i64 c0,.int .i64 c1,.int .i64 c2,.int .i64 c3,.int .i64 c4,.int .i64 c5,.int .i64 c6]] w fun e w'=>e=.returned (.bool false)∧w'=w.alloc (.cells #[.int .i64 c0,.int .i64 c1,.int .i64 c2,.int .i64 c3,.int .i64 c4,.int .i64 c5,.int .i64 c6] 23):=by
 have H:=Vh h
 clear h
 go_enter Tryz.func40,Tryz.ntmps40
 go_wp2_with (first
  |(go_at_call_of 72 (Value.int .i64 c0);refine (Zs _ _ _ _ p0 q0).mono ?_;rintro e w' ⟨rfl,rfl⟩)
  |(go_at_call_of 72 (Value.int .i64 c1);refine (Qas _ _ _ _ H.out).mono ?_;rintro e w' ⟨rfl,rfl⟩))
 go_ret
 exact ⟨rfl,rfl⟩
theorem good_2 (c0 c1 c2 c3 c4 c5 c6:Int) (w:World) (p0:1≤c0) (q0:c0≤8) (p1:2≤c1) (q1:c1≤64) (h:¬(1≤c2∧c2≤c1-1)):Calls Tryz.prog 40 #[.agg #[.int .i64 c0,.int .i64 c1,.int .i64 c2,.int .i64 c3,.int .i64 c4,.int .i64 c5,.int .i64 c6]] w fun e w'=>e=.returned (.bool false)∧w'=w.alloc (.cells #[.int .i64 c0,.int .i64 c1,.int .i64 c2,.int .i64 c3,.int .i64 c4,.int .i64 c5,.int .i64 c6] 23):=by
 have H:=Vh h
 clear h
 go_enter Tryz.func40,Tryz.ntmps40
 go_wp2_with (first
  |(go_at_call_of 72 (Value.int .i64 c0);refine (Zs _ _ _ _ p0 q0).mono ?_;rintro e w' ⟨rfl,rfl⟩)
  |(go_at_call_of 72 (Value.int .i64 c1);refine (Zs _ _ _ _ p1 q1).mono ?_;rintro e w' ⟨rfl,rfl⟩)
  |(go_at_call_of 72 (Value.int .i64 c2);refine (Qas _ _ _ _ H.out).mono ?_;rintro e w' ⟨rfl,rfl⟩))
 go_ret
 exact ⟨rfl,rfl⟩
theorem good_3 (c0 c1 c2 c3 c4 c5 c6:Int) (w:World) (p0:1≤c0) (q0:c0≤8) (p1:2≤c1) (q1:c1≤64) (p2:1≤c2) (q2:c2≤c1-1) (h:¬(c3=1∨c3=2∨c3=4∨c3=8)):Calls Tryz.prog 40 #[.agg #[.int .i64 c0,.int .i64 c1,.int .i64 c2,.int .i64 c3,.int .i64 c4,.int .i64 c5,.int .i64 c6]] w fun e w'=>e=.returned (.bool false)∧w'=w.alloc (.cells #[.int .i64 c0,.int .i64 c1,.int .i64 c2,.int .i64 c3,.int .i64 c4,.int .i64 c5,.int .i64 c6] 23):=by
 have H:=Vh h
 clear h
 go_enter Tryz.func40,Tryz.ntmps40
 go_wp2_with (first
  |(go_at_call_of 72 (Value.int .i64 c0);refine (Zs _ _ _ _ p0 q0).mono ?_;rintro e w' ⟨rfl,rfl⟩)
  |(go_at_call_of 72 (Value.int .i64 c1);refine (Zs _ _ _ _ p1 q1).mono ?_;rintro e w' ⟨rfl,rfl⟩)
  |(go_at_call_of 72 (Value.int .i64 c2);refine (Zs _ _ _ _ p2 q2).mono ?_;rintro e w' ⟨rfl,rfl⟩)
  |(go_at_call 73;refine (sets_no _ _ H.out).mono ?_;rintro e w' ⟨rfl,rfl⟩))
 go_ret
 exact ⟨rfl,rfl⟩
theorem good_4 (c0 c1 c2 c3 c4 c5 c6:Int) (w:World) (p0:1≤c0) (q0:c0≤8) (p1:2≤c1) (q1:c1≤64) (p2:1≤c2) (q2:c2≤c1-1) (s:c3=1∨c3=2∨c3=4∨c3=8) (h:¬(1≤c4∧c4≤8)):Calls Tryz.prog 40 #[.agg #[.int .i64 c0,.int .i64 c1,.int .i64 c2,.int .i64 c3,.int .i64 c4,.int .i64 c5,.int .i64 c6]] w fun e w'=>e=.returned (.bool false)∧w'=w.alloc (.cells #[.int .i64 c0,.int .i64 c1,.int .i64 c2,.int .i64 c3,.int .i64 c4,.int .i64 c5,.int .i64 c6] 23):=by
 have H:=Vh h
 clear h
 have S:=Vh s
 clear s
 go_enter Tryz.func40,Tryz.ntmps40
 go_wp2_with (first
  |(go_at_call_of 72 (Value.int .i64 c0);refine (Zs _ _ _ _ p0 q0).mono ?_;rintro e w' ⟨rfl,rfl⟩)
  |(go_at_call_of 72 (Value.int .i64 c1);refine (Zs _ _ _ _ p1 q1).mono ?_;rintro e w' ⟨rfl,rfl⟩)
  |(go_at_call_of 72 (Value.int .i64 c2);refine (Zs _ _ _ _ p2 q2).mono ?_;rintro e w' ⟨rfl,rfl⟩)
  |(go_at_call 73;refine (Qhf _ _ S.out).mono ?_;rintro e w' ⟨rfl,rfl⟩)
  |(go_at_call_of 72 (Value.int .i64 c4);refine (Qas _ _ _ _ H.out).mono ?_;rintro e w' ⟨rfl,rfl⟩))
 go_ret
 exact ⟨rfl,rfl⟩
theorem good_5 (c0 c1 c2 c3 c4 c5 c6:Int) (w:World) (p0:1≤c0) (q0:c0≤8) (p1:2≤c1) (q1:c1≤64) (p2:1≤c2) (q2:c2≤c1-1) (s:c3=1∨c3=2∨c3=4∨c3=8) (p4:1≤c4) (q4:c4≤8) (h:¬(1≤c5∧c5≤16)):Calls Tryz.prog 40 #[.agg #[.int .i64 c0,.int .i64 c1,.int .i64 c2,.int .i64 c3,.int .i64 c4,.int .i64 c5,.int .i64 c6]] w fun e w'=>e=.returned (.bool false)∧w'=w.alloc (.cells #[.int .i64 c0,.int .i64 c1,.int .i64 c2,.int .i64 c3,.int .i64 c4,.int .i64 c5,.int .i64 c6] 23):=by
 have H:=Vh h
 clear h
 have S:=Vh s
 clear s
 go_enter Tryz.func40,Tryz.ntmps40
 go_wp2_with (first
  |(go_at_call_of 72 (Value.int .i64 c0);refine (Zs _ _ _ _ p0 q0).mono ?_;rintro e w' ⟨rfl,rfl⟩)
  |(go_at_call_of 72 (Value.int .i64 c1);refine (Zs _ _ _ _ p1 q1).mono ?_;rintro e w' ⟨rfl,rfl⟩)
  |(go_at_call_of 72 (Value.int .i64 c2);refine (Zs _ _ _ _ p2 q2).mono ?_;rintro e w' ⟨rfl,rfl⟩)
  |(go_at_call 73;refine (Qhf _ _ S.out).mono ?_;rintro e w' ⟨rfl,rfl⟩)
  |(go_at_call_of 72 (Value.int .i64 c4);refine (Zs _ _ _ _ p4 q4).mono ?_;rintro e w' ⟨rfl,rfl⟩)
  |(go_at_call_of 72 (Value.int .i64 c5);refine (Qas _ _ _ _ H.out).mono ?_;rintro e w' ⟨rfl,rfl⟩))
 go_ret
 exact ⟨rfl,rfl⟩
theorem good_6 (c0 c1 c2 c3 c4 c5 c6:Int) (w:World) (p0:1≤c0) (q0:c0≤8) (p1:2≤c1) (q1:c1≤64) (p2:1≤c2) (q2:c2≤c1-1) (s:c3=1∨c3=2∨c3=4∨c3=8) (p4:1≤c4) (q4:c4≤8) (p5:1≤c5) (q5:c5≤16) (h:¬(1≤c6∧c6≤16)):Calls Tryz.prog 40 #[.agg #[.int .i64 c0,.int .i64 c1,.int .i64 c2,.int .i64 c3,.int .i64 c4,.int .i64 c5,.int .i64 c6]] w fun e w'=>e=.returned (.bool false)∧w'=w.alloc (.cells #[.int .i64 c0,.int .i64 c1,.int .i64 c2,.int .i64 c3,.int .i64 c4,.int .i64 c5,.int .i64 c6] 23):=by
 have H:=Vh h
 clear h
 have S:=Vh s
 clear s
 go_enter Tryz.func40,Tryz.ntmps40
 go_wp2_with (first
  |(go_at_call_of 72 (Value.int .i64 c0);refine (Zs _ _ _ _ p0 q0).mono ?_;rintro e w' ⟨rfl,rfl⟩)
  |(go_at_call_of 72 (Value.int .i64 c1);refine (Zs _ _ _ _ p1 q1).mono ?_;rintro e w' ⟨rfl,rfl⟩)
  |(go_at_call_of 72 (Value.int .i64 c2);refine (Zs _ _ _ _ p2 q2).mono ?_;rintro e w' ⟨rfl,rfl⟩)
  |(go_at_call 73;refine (Qhf _ _ S.out).mono ?_;rintro e w' ⟨rfl,rfl⟩)
  |(go_at_call_of 72 (Value.int .i64 c4);refine (Zs _ _ _ _ p4 q4).mono ?_;rintro e w' ⟨rfl,rfl⟩)
  |(go_at_call_of 72 (Value.int .i64 c5);refine (Zs _ _ _ _ p5 q5).mono ?_;rintro e w' ⟨rfl,rfl⟩)
  |(go_at_call_of 72 (Value.int .i64 c6);refine (Qas _ _ _ _ H.out).mono ?_;rintro e w' ⟨rfl,rfl⟩))
 go_ret
 exact ⟨rfl,rfl⟩
theorem good_7 (c0 c1 c2 c3 c4 c5 c6:Int) (w:World) (p0:1≤c0) (q0:c0≤8) (p1:2≤c1) (q1:c1≤64) (p2:1≤c2) (q2:c2≤c1-1) (s:c3=1∨c3=2∨c3=4∨c3=8) (p4:1≤c4) (q4:c4≤8) (p5:1≤c5) (q5:c5≤16) (p6:1≤c6) (q6:c6≤16):Calls Tryz.prog 40 #[.agg #[.int .i64 c0,.int .i64 c1,.int .i64 c2,.int .i64 c3,.int .i64 c4,.int .i64 c5,.int .i64 c6]] w fun e w'=>e=.returned (.bool true)∧w'=w.alloc (.cells #[.int .i64 c0,.int .i64 c1,.int .i64 c2,.int .i64 c3,.int .i64 c4,.int .i64 c5,.int .i64 c6] 23):=by
 have S:=Vh s
 clear s
 go_enter Tryz.func40,Tryz.ntmps40
 go_wp2_with (first
  |(go_at_call_of 72 (Value.int .i64 c0);refine (Zs _ _ _ _ p0 q0).mono ?_;rintro e w' ⟨rfl,rfl⟩)
  |(go_at_call_of 72 (Value.int .i64 c1);refine (Zs _ _ _ _ p1 q1).mono ?_;rintro e w' ⟨rfl,rfl⟩)
  |(go_at_call_of 72 (Value.int .i64 c2);refine (Zs _ _ _ _ p2 q2).mono ?_;rintro e w' ⟨rfl,rfl⟩)
  |(go_at_call 73;refine (Qhf _ _ S.out).mono ?_;rintro e w' ⟨rfl,rfl⟩)
  |(go_at_call_of 72 (Value.int .i64 c4);refine (Zs _ _ _ _ p4 q4).mono ?_;rintro e w' ⟨rfl,rfl⟩)
  |(go_at_call_of 72 (Value.int .i64 c5);refine (Zs _ _ _ _ p5 q5).mono ?_;rintro e w' ⟨rfl,rfl⟩)
  |(go_at_call_of 72 (Value.int .i64 c6);refine (Zs _ _ _ _ p6 q6).mono ?_;rintro e w' ⟨rfl,rfl⟩))
 go_ret
 exact ⟨rfl,rfl⟩
def YU (c0 c1 c2 c3 c4 c5 c6:Int):Bool:=decide (1≤c0∧c0≤8∧2≤c1∧c1≤64∧1≤c2∧c2≤c1-1∧(c3=1∨c3=2∨c3=4∨c3=8)∧1≤c4∧c4≤8∧1≤c5∧c5≤16∧1≤c6∧c6≤16)
theorem good_any (c0 c1 c2 c3 c4 c5 c6:Int) (w:World):Calls Tryz.prog 40 #[.agg #[.int .i64 c0,.int .i64 c1,.int .i64 c2,.int .i64 c3,.int .i64 c4,.int .i64 c5,.int .i64 c6]] w fun e w'=>e=.returned (.bool (YU c0 c1 c2 c3 c4 c5 c6))∧w'=w.alloc (.cells #[.int .i64 c0,.int .i64 c1,.int .i64 c2,.int .i64 c3,.int .i64 c4,.int .i64 c5,.int .i64 c6] 23):=by
 by_cases h0:1≤c0∧c0≤8
 rotate_left
 ·have e:YU c0 c1 c2 c3 c4 c5 c6=false:=by unfold YU;simp only [decide_eq_false_iff_not];omega
  rw [e];exact good_0 c0 c1 c2 c3 c4 c5 c6 w h0
 by_cases h1:2≤c1∧c1≤64
 rotate_left
 ·have e:YU c0 c1 c2 c3 c4 c5 c6=false:=by unfold YU;simp only [decide_eq_false_iff_not];omega
  rw [e];exact good_1 c0 c1 c2 c3 c4 c5 c6 w h0.1 h0.2 h1
 by_cases h2:1≤c2∧c2≤c1- 1
 rotate_left
 ·have e:YU c0 c1 c2 c3 c4 c5 c6=false:=by unfold YU;simp only [decide_eq_false_iff_not];omega
  rw [e];exact good_2 c0 c1 c2 c3 c4 c5 c6 w h0.1 h0.2 h1.1 h1.2 h2
 by_cases h3:c3=1∨c3=2∨c3=4∨c3=8
 rotate_left
 ·have e:YU c0 c1 c2 c3 c4 c5 c6=false:=by unfold YU;simp only [decide_eq_false_iff_not];omega
  rw [e];exact good_3 c0 c1 c2 c3 c4 c5 c6 w h0.1 h0.2 h1.1 h1.2 h2.1 h2.2 h3
 by_cases h4:1≤c4∧c4≤8
 rotate_left
 ·have e:YU c0 c1 c2 c3 c4 c5 c6=false:=by unfold YU;simp only [decide_eq_false_iff_not];omega
  rw [e];exact good_4 c0 c1 c2 c3 c4 c5 c6 w h0.1 h0.2 h1.1 h1.2 h2.1 h2.2 h3 h4
 by_cases h5:1≤c5∧c5≤16
 rotate_left
 ·have e:YU c0 c1 c2 c3 c4 c5 c6=false:=by unfold YU;simp only [decide_eq_false_iff_not];omega
  rw [e];exact good_5 c0 c1 c2 c3 c4 c5 c6 w h0.1 h0.2 h1.1 h1.2 h2.1 h2.2 h3 h4.1 h4.2 h5
 by_cases h6:1≤c6∧c6≤16
 rotate_left
 ·have e:YU c0 c1 c2 c3 c4 c5 c6=false:=by unfold YU;simp only [decide_eq_false_iff_not];omega
  rw [e];exact good_6 c0 c1 c2 c3 c4 c5 c6 w h0.1 h0.2 h1.1 h1.2 h2.1 h2.2 h3 h4.1 h4.2 h5.1 h5.2 h6
 have e:YU c0 c1 c2 c3 c4 c5 c6=true:=by unfold YU;simp only [decide_eq_true_eq];omega
 rw [e];exact good_7 c0 c1 c2 c3 c4 c5 c6 w h0.1 h0.2 h1.1 h1.2 h2.1 h2.2 h3 h4.1 h4.2 h5.1 h5.2 h6.1 h6.2
end
section
set_option maxHeartbeats 1000000
set_option maxRecDepth 100000
attribute [local go_sem ↓] Qv QF Qx QP QG Qs Zg Q7 ZH Zt Qk Qh heap_alloc Ql heap_setCell Qc XG XP XO Zi ZP Zu Xk ZQ Xq Xp Xy Xx
attribute [local go_sem] Qb Qa Qe Qi Qd Qg Qf Qt Zk Zf ZE QB Qw QN QL QM Q6 QJ QA Qr QD QX QI Qq QC Qp Qj Qo Qn Qm Zj Zv lit8 QV Xc ZG ZL ZV Zn ZM Xj ZN QH ZO Zx Zy QZ QY Zb XB
attribute [local simp ↓] Qk Qh heap_alloc Ql heap_setCell Qc
attribute [local simp] Qb Qa Qe Qi Qd Qg Qf Qt Qr Qj Qo Qn Qm QV QH QZ QY Zb QD
attribute [local go_sem ↓] Qa3 Qa4 Qa2 Qa1 Qa6 Qa5 Qa0 Qbg
attribute [local go_sem] Y9 Qax Y8 XQ XT Zh Jo Yf Qbh Z9 Zp Zo Zm Zr Zq Zl Zd Zc ZD ZA Jj Yc
attribute [local simp] Zh ZA Zp Zo Zm Zr Zq Zl Zd Zc ZD
attribute [local go_sem ↓] Jl Yb Jk Ya Yg
attribute [local go_sem] Jh Jg Ye Ji QQ QU YH
attribute [local simp] Yg QQ QU QD Z9
attribute [local go_sem ↓] YL Y0 Y1 J5
attribute [local simp] YL
def Cg.cells (c:Cg):Array Value:=#[.int .i64 c.co,.int .i64 c.li,.int .i64 c.vo,.int .i64 c.se,.int .i64 c.wa,.int .i64 c.qu,.int .i64 c.st]
def MadeSys (W w:World) (c:Cg) (xs:List Int):Ending→World→Prop:=fun e w'=>∃z L,e=.returned (.tuple #[.pointer (some ⟨z.sy,0,none⟩),.int .i64 0])∧Msd W w' c z L (List.replicate c.li enE) [] xs∧ports L=List.replicate c.co (pt0 c)∧Chg [] w w'∧∀k∈z.all L,w.heap.size≤k
theorem good_ok (c:Cg) (hc:c.Ok):YU c.co c.li c.vo c.se c.wa c.qu c.st=true:=by
 obtain ⟨h1,h2,h3,h4,h5,h6,h7,h8,h9,h10,h11⟩:=hc
 unfold Qb1 at h7
 unfold YU
 apply decide_eq_true
 omega
theorem zgood_at (c:Cg) (hc:c.Ok) (w:World):Calls Tryz.prog 40 #[.agg c.cells] w fun e w'=>e=.returned (.bool true)∧Chg [] w w':=
 (good_any c.co c.li c.vo c.se c.wa c.qu c.st w).mono fun e w' ⟨he,hw⟩=>⟨by rw [he,good_ok c hc],by subst hw;exact (Chg.refl [] w).alloc _⟩
theorem Qba (c:Cg):c.cells.size=7:=rfl
theorem Qd2 (c:Cg):Qab c.cells:=Qp _ rfl
theorem Qiz (c:Cg):c.cells[1]? =some (.int .i64 c.li):=rfl
theorem Qix (c:Cg):c.cells[2]? =some (.int .i64 c.vo):=rfl
theorem Qiy (c:Cg):c.cells[5]? =some (.int .i64 c.qu):=rfl
def sysZ (c:Cg) (q:Option Nat):Array Value:=(c.enc++([.pointer (q.map fun k=>⟨k,0,none⟩),.slice none 0 0,.slice none 0 0]:List Value)++List.replicate 6 (Value.int .u64 0)).toArray
theorem fold_cg0 (c:Cg):Array.foldl (fun cs y=>cs.setIfInBounds (0+y.snd) y.fst) (#[.int .i64 0,.int .i64 0,.int .i64 0,.int .i64 0,.int .i64 0,.int .i64 0,.int .i64 0,.pointer none,.slice none 0 0,.slice none 0 0,.int .u64 0,.int .u64 0,.int .u64 0,.int .u64 0,.int .u64 0,.int .u64 0]:Array Value) c.cells.zipIdx 0 7=sysZ c none:=by
 rw [Qef _ _ 0 7 rfl (by simp)]
 simp [Zz,sysZ,Cg.cells,Cg.enc]
theorem fold_cg (c:Cg):Array.foldl (fun cs y=>cs.setIfInBounds y.snd y.fst) (#[.int .i64 0,.int .i64 0,.int .i64 0,.int .i64 0,.int .i64 0,.int .i64 0,.int .i64 0,.pointer none,.slice none 0 0,.slice none 0 0,.int .u64 0,.int .u64 0,.int .u64 0,.int .u64 0,.int .u64 0,.int .u64 0]:Array Value) c.cells.zipIdx 0 7=sysZ c none:=by
 have:=fold_cg0 c
 simp only [Nat.zero_add] at this
 exact this
theorem sysZ_put (c:Cg) (q:Nat):(sysZ c none).setIfInBounds 7 (.pointer (some ⟨q,0,none⟩))=sysZ c (some q):=rfl
theorem sysZ_size (c:Cg) (q:Option Nat):(sysZ c q).size=16:=rfl
theorem sysZ_enc (c:Cg) (q:Nat):∀z:Lay,z.q=q→z.ks=List.replicate 6 0→((sysZ c (some q)).setIfInBounds 8 (.slice (some ⟨z.po,0,none⟩) c.co c.co)).setIfInBounds 9 (.slice (some ⟨z.en,0,none⟩) c.li c.li)=(z.enc c).toArray:=by
 rintro z rfl h
 unfold Lay.enc sysZ
 rw [h]
 rfl
attribute [local go_sem] fold_cg fold_cg0 sysZ_put sysZ_size
theorem Qdi:Wide Tryz.prog 23 7:=⟨⟨_,Tryz.underlying23,by rfl⟩,by kernel_rfl⟩
theorem Qdn (x:Value):Instr.loadAt 23 x=Qdf 23 7 x:=rfl
attribute [local go_sem ↓] Qdn Qiz Qix Qiy
theorem Qd1 (c:Cg) (t:TypeId) (f:Nat×Nat):XF (some (.cells c.cells t f)) 0 7=c.cells:=Qd _ _ _ _ rfl
attribute [local go_sem] Qdi Qba Qd2 Qd1
theorem znew_none (W w:World) (c:Cg) (hc:c.Ok) (hW:Chg [] W w) (A:Option Addr) (nc:Nat):Calls Tryz.prog 24 #[.agg c.cells,.slice A 0 nc] w (MadeSys W w c (List.replicate (c.li*8) 0)):=by
 have HC:=Vh hc
 have HW:=Vh hW
 clear hc hW
 go_enter Tryz.func24,Tryz.ntmps24
 try dsimp only [List.append]
 go_wp2_with fail
 have r1:(w.alloc (.cells c.cells 23)).heap[w.heap.size]? =some (.cells c.cells 23 (0,0)):=by simp
 have C1:=Vh ((Chg.refl [] w).alloc (.cells c.cells 23))
 refine (zgood_at c HC.out _).mono ?_
 rintro e w2 ⟨rfl,c2⟩
 replace r1:=c2.keep r1 Vn
 have o1:=old r1
 have C2:=Vh (C1.out.trans c2)
 clear C1 c2
 generalize w.heap.size=b1 at r1 o1 ⊢
 go_wp2_with fail
 refine (new_ok c.li c.vo w2 HC.out.li2 HC.out.li64 HC.out.vo1 HC.out.vol).mono ?_
 rintro e w3 ⟨rfl,c3,hdev,hsz⟩
 replace r1:=c3.keep r1 Vn
 replace o1:=old r1
 have C3:=Vh (C2.out.trans c3)
 have HD:=Vh hdev
 have HL:=Vh C2.out.size
 have HGB:=Vh (show w.heap.size≤w2.heap.size+1∧w.heap.size≤w2.heap.size from ⟨by have:=C2.out.size;omega,C2.out.size⟩)
 generalize w2.heap.size+1=g at HD HGB ⊢
 generalize w2.heap.size=b at HD HL HGB
 clear c3 hsz
 have HG:=Vh (show w.heap.size≤g∧w.heap.size≤b from HGB.out)
 go_wp2_with fail
 refine (wsys_new W c.li c.vo c.qu w3 g b _ (HW.out.trans C3.out) HD.out (Nat.le_trans HW.out.size HG.out.1) (Nat.le_trans HW.out.size HG.out.2) HC.out.qu1 HC.out.qu16).mono ?_
 rintro e w4 ⟨q,rfl,hsys,c4,hq⟩
 replace r1:=c4.keep r1 Vn
 replace o1:=old r1
 have HS4:=Vh hsys
 have HQ:=Vh hq
 have C4:=Vh (C3.out.trans c4)
 clear hsys hq c4
 go_upto_region 9 with fail
 have rS:(w4.alloc (.cells (sysZ c (some q)) 103)).heap[w4.heap.size]? =some (.cells (sysZ c (some q)) 103 (0,0)):=Qbz _ _
 have K5:=Vh ((Chg.refl [] w4).alloc (.cells (sysZ c (some q)) 103))
 have NS:=Vh (Nat.le_refl w4.heap.size)
 have NQ:=Vh (show q<w4.heap.size∧g<w4.heap.size∧b<w4.heap.size from ⟨HS4.out.2.1.oldq.lt,HS4.out.2.2.1.oldg,HS4.out.2.2.1.oldb⟩)
 have SY0:=Vh C4.out.size
 have HSZ:=Vh (show w4.heap.size≤(w4.alloc (.cells (sysZ c (some q)) 103)).heap.size by simp)
 generalize w4.heap.size=sy at rS NS NQ SY0 HSZ ⊢
 generalize w4.alloc (.cells (sysZ c (some q)) 103)=w5 at rS K5 HSZ ⊢
 have hf:=Qij W w5 c HC.out sy (sysZ c (some q)) ((HW.out.trans C4.out).trans K5.out) (Nat.le_trans HW.out.size SY0.out) rS rfl rfl rfl rfl _ _ rfl rfl
 have HF:=Vh hf
 have HRS:=Vh rS
 clear hf rS r1 o1
 go_wp2_with fail
 refine HF.out.mono ?_
 rintro e w6 ⟨rfl,hfr⟩
 have hS5:=HS4.out.keep K5.out
 have hap:=HS4.out.2.2.2.1
 have hgb:g≠b:=by obtain ⟨_,_,_,_,_,_,_,h⟩:=HS4.out.2.2.1;exact h
 have hnd:([sy,q,g,b]++opt q q).Nodup:=by
  have h1:=NQ.out
  obtain ⟨a1,a2,a3,a4⟩:=hap
  simp [opt]
  omega
 obtain ⟨po,en,L,hm,hp,hc6,hk6⟩:=Qie (z:=⟨sy,q,q,g,b,0,0,List.replicate 6 0⟩) (fun po en=>sysZ_enc c q ⟨sy,q,q,g,b,po,en,List.replicate 6 0⟩ rfl rfl) ((HW.out.trans C4.out).trans K5.out) HRS.out (Nat.le_trans HW.out.size SY0.out) (by simp) hS5 hnd hfr
 have HFIN:=Vh (show MadeSys W w c (List.replicate (c.li*8) 0) (.returned (.tuple #[.pointer (some ⟨sy,0,none⟩),.int .i64 0])) w6 by
  refine ⟨⟨sy,q,q,g,b,po,en,List.replicate 6 0⟩,L,rfl,hm,hp,((C4.out.trans K5.out).mono (by simp)).trans' hc6 (fun x hx=>.inr (by rw [Vs hx];exact SY0.out)),?_⟩
  intro k hk
  have h1:=HQ.out
  have h2:=HG.out
  have h3:=C3.out.size
  have h4:=SY0.out
  have h5:=C4.out.size
  have h6:=K5.out.size
  rcases hk6 k hk with h|h
  ·simp [opt] at h
   omega
  ·have:=HSZ.out
   omega)
 clear hfr hm hp hc6 hk6 hnd hS5
 go_wp2_with fail
 go_ret2
 exact HFIN.out
end
section
set_option maxHeartbeats 1000000
set_option maxRecDepth 100000
attribute [local go_sem ↓] Qv QF Qx QP QG Qs Zg Q7 ZH Zt Qk Qh heap_alloc Ql heap_setCell Qc XG XP XO Zi ZP Zu Xk ZQ Xq Xp Xy Xx
attribute [local go_sem] Qb Qa Qe Qi Qd Qg Qf Qt Zk Zf ZE QB Qw QN QL QM Q6 QJ QA Qr QD QX QI Qq QC Qp Qj Qo Qn Qm Zj Zv lit8 QV Xc ZG ZL ZV Zn ZM Xj ZN QH ZO Zx Zy QZ QY Zb XB
attribute [local simp ↓] Qk Qh heap_alloc Ql heap_setCell Qc
attribute [local simp] Qb Qa Qe Qi Qd Qg Qf Qt Qr Qj Qo Qn Qm QV QH QZ QY Zb QD
attribute [local go_sem ↓] Qa3 Qa4 Qa2 Qa1 Qa6 Qa5 Qa0 Qbg
attribute [local go_sem] Y9 Qax Y8 XQ XT Zh Jo Yf Qbh Z9 Zp Zo Zm Zr Zq Zl Zd Zc ZD ZA Jj Yc
attribute [local simp] Zh ZA Zp Zo Zm Zr Zq Zl Zd Zc ZD
attribute [local go_sem ↓] Jl Yb Jk Ya Yg
attribute [local go_sem] Jh Jg Ye Ji QQ QU YH
attribute [local simp] Yg QQ QU QD Z9
def Mem (W w:World) (c:Cg) (sy:Nat) (F:List Nat) (ps:List Pt) (en:List En) (es:List Ent) (xs:List Int):Prop:=∃z L,z.sy=sy∧z.all L=F∧ports L=ps∧Msd W w c z L en es xs
def MemTo (W w:World) (c:Cg) (sy:Nat) (F:List Nat) (ps:List Pt) (en:List En) (es:List Ent) (xs:List Int) (w':World):Prop:=∃F',Mem W w' c sy F' ps en es xs∧Chg F w w'∧∀k∈F',k∈F∨w.heap.size≤k
theorem MemTo.of {W w w':World} {c:Cg} {z z':Lay} {L L':List (Po×Pt)} {en:List En} {es:List Ent} {xs:List Int} (h:MTo W w c z L z' L' en es xs w') (hs:z'.sy=z.sy) {ps:List Pt} (hp:ports L'=ps):MemTo W w c z.sy (z.all L) ps en es xs w':=
 ⟨z'.all L',⟨z',L',hs,rfl,hp,h.1⟩,h.2.1,h.2.2⟩
theorem MemTo.trans {W w w1 w2:World} {c:Cg} {sy:Nat} {F F1:List Nat} {ps ps2:List Pt} {en en2:List En} {es es2:List Ent} {xs xs2:List Int} (h1:Mem W w1 c sy F1 ps en es xs) (h2:Chg F w w1) (h3:∀k∈F1,k∈F∨w.heap.size≤k) (h:MemTo W w1 c sy F1 ps2 en2 es2 xs2 w2):MemTo W w c sy F ps2 en2 es2 xs2 w2:=by
 obtain ⟨F2,hm,hc,hk⟩:=h
 refine ⟨F2,hm,h2.trans' hc h3,fun k hk2=>?_⟩
 rcases hk k hk2 with h4|h4
 ·exact h3 k h4
 ·exact .inr (Nat.le_trans h2.size h4)
section
variable {W w w':World} {c:Cg} {sy:Nat} {F:List Nat} {ps:List Pt} {en:List En} {es:List Ent} {xs:List Int} (hm:Mem W w c sy F ps en es xs)
include hm
theorem Mem.keep (hc:Chg [] w w'):Mem W w' c sy F ps en es xs:=by
 obtain ⟨z,L,h1,h2,h3,h⟩:=hm
 exact ⟨z,L,h1,h2,h3,h.keep hc⟩
theorem Mem.keepL {l:List Nat} (hc:Chg l w w') (hl:∀k∈l,k∉F) (hw:∀k∈l,W.heap.size≤k):Mem W w' c sy F ps en es xs:=by
 obtain ⟨z,L,h1,rfl,h3,h⟩:=hm
 exact ⟨z,L,h1,rfl,h3,h.keepL hc hl hw⟩
theorem Mem.stay (hc:Chg [] w w'):MemTo W w c sy F ps en es xs w':=⟨F,hm.keep hc,hc.mono (by simp),fun k hk=>.inl hk⟩
theorem Mem.chg:Chg [] W w:=by obtain ⟨z,L,_,_,_,h⟩:=hm;exact h.chg
theorem Mem.old:∀k∈F,k<w.heap.size:=by obtain ⟨z,L,_,rfl,_,h⟩:=hm;exact h.old
theorem mload_ok (i:Nat) (li k:Int) (x:Pt) (hy:ps[i]? =some x) (hT:Tab W) (hl:inB li c.li=true) (hu:x.s.2≤1000000000) (hq:x.up.length<1000) (hma:∀m∈(loadF c.se c.wa x.s li k).2.2.2,mg m=true) (h1:(loadF c.se c.wa x.s li k).2.2.2.length≤1):
 Calls Tryz.prog 193 #[.pointer (some ⟨sy,0,none⟩),.int .i64 i,.int .i64 li,.int .i64 k] w fun e w'=>e=.returned (.tuple #[.int .u64 (loadF c.se c.wa x.s li k).2.1,.bool (loadF c.se c.wa x.s li k).2.2.1])∧MemTo W w c sy F (ps.set i {x with s:=(loadF c.se c.wa x.s li k).1,up:=x.up++(loadF c.se c.wa x.s li k).2.2.2}) en es xs w':=by
 obtain ⟨z,L,rfl,rfl,rfl,h⟩:=hm
 obtain ⟨p,hp⟩:=Jr hy
 exact (zload_ok i li k p x w h hT hp hl hu hq hma h1).mono fun e w' ⟨he,p',M⟩=>⟨he,MemTo.of M rfl (YG ..)⟩
theorem mstore_ok (i:Nat) (li k v:Int) (x:Pt) (hy:ps[i]? =some x) (hT:Tab W) (hl:inB li c.li=true) (hu:x.s.2≤1000000000) (hq:x.up.length<1000) (hma:∀m∈(storeF c.se c.wa x.s li k v).2.2,mg m=true) (h1:(storeF c.se c.wa x.s li k v).2.2.length≤1):
 Calls Tryz.prog 143 #[.pointer (some ⟨sy,0,none⟩),.int .i64 i,.int .i64 li,.int .i64 k,.int .u64 v] w fun e w'=>e=.returned (.bool (storeF c.se c.wa x.s li k v).2.1)∧MemTo W w c sy F (ps.set i {x with s:=(storeF c.se c.wa x.s li k v).1,up:=x.up++(storeF c.se c.wa x.s li k v).2.2}) en es xs w':=by
 obtain ⟨z,L,rfl,rfl,rfl,h⟩:=hm
 obtain ⟨p,hp⟩:=Jr hy
 exact (zstore_ok i li k v p x w h hT hp hl hu hq hma h1).mono fun e w' ⟨he,p',M⟩=>⟨he,MemTo.of M rfl (YG ..)⟩
theorem mevict_ok (i:Nat) (li:Int) (x:Pt) (hy:ps[i]? =some x) (hT:Tab W) (hl:inB li c.li=true) (hu:x.s.2≤1000000000) (hq:x.up.length<1000) (hma:∀m∈(evictF c.se c.wa x.s li).2.1,mg m=true) (h1:(evictF c.se c.wa x.s li).2.1.length≤1):
 Calls Tryz.prog 86 #[.pointer (some ⟨sy,0,none⟩),.int .i64 i,.int .i64 li] w fun e w'=>e=.returned (.int .i64 (evictF c.se c.wa x.s li).2.2)∧MemTo W w c sy F (ps.set i {x with s:=(evictF c.se c.wa x.s li).1,up:=x.up++(evictF c.se c.wa x.s li).2.1}) en es xs w':=by
 obtain ⟨z,L,rfl,rfl,rfl,h⟩:=hm
 obtain ⟨p,hp⟩:=Jr hy
 exact (zevict_ok i li p x w h hT hp hl hu hq hma h1).mono fun e w' ⟨he,p',M⟩=>⟨he,MemTo.of M rfl (YG ..)⟩
theorem mreach_own (i:Nat) (li:Int) (x:Pt) (hy:ps[i]? =some x) (hl:inB li c.li=true) (ho:Qeo x.s.1 li=true):
 Calls Tryz.prog 195 #[.pointer (some ⟨sy,0,none⟩),.int .i64 i,.int .i64 li] w fun e w'=>e=.returned (.bool true)∧Chg [] w w':=by
 obtain ⟨z,L,rfl,rfl,rfl,h⟩:=hm
 obtain ⟨p,hp⟩:=Jr hy
 exact zreach_own i li p x w h hp hl ho
theorem mreach_ok (i:Nat) (li:Int) (x:Pt) (hy:ps[i]? =some x) (hT:Tab W) (hl:inB li c.li=true) (ho:Qeo x.s.1 li=false) (hu:x.s.2≤1000000000) (hq:x.up.length<1000) (hma:∀m∈(reachF c.se c.wa x.s li).2,mg m=true) (h1:(reachF c.se c.wa x.s li).2.length≤1):
 Calls Tryz.prog 195 #[.pointer (some ⟨sy,0,none⟩),.int .i64 i,.int .i64 li] w fun e w'=>e=.returned (.bool false)∧MemTo W w c sy F (ps.set i {x with s:=(reachF c.se c.wa x.s li).1,up:=x.up++(reachF c.se c.wa x.s li).2}) en es xs w':=by
 obtain ⟨z,L,rfl,rfl,rfl,h⟩:=hm
 obtain ⟨p,hp⟩:=Jr hy
 exact (zreach_ok i li p x w h hT hp hl ho hu hq hma h1).mono fun e w' ⟨he,p',M⟩=>⟨he,MemTo.of M rfl (YG ..)⟩
theorem mflush_4 (i:Nat) (li:Int) (x:Pt) (hy:ps[i]? =some x) (hT:Tab W) (hl:inB li c.li=true) (hq:x.up.length<1000) (hma:mg (ms4 4 li false false)=true):
 Calls Tryz.prog 145 #[.pointer (some ⟨sy,0,none⟩),.int .i64 i,.int .i64 li,.int .i64 4] w fun e w'=>e=.returned (.int .i64 0)∧MemTo W w c sy F (ps.set i {x with up:=x.up++[ms4 4 li false false]}) en es xs w':=by
 obtain ⟨z,L,rfl,rfl,rfl,h⟩:=hm
 obtain ⟨p,hp⟩:=Jr hy
 exact (zflush_4 i li p x w h hT hp hl hq hma).mono fun e w' ⟨he,p',M⟩=>⟨he,MemTo.of M rfl (YG ..)⟩
theorem mflush_5 (i:Nat) (li:Int) (x:Pt) (hy:ps[i]? =some x) (hT:Tab W) (hl:inB li c.li=true) (hq:x.up.length<1000) (hma:mg (ms4 5 li false false)=true):
 Calls Tryz.prog 145 #[.pointer (some ⟨sy,0,none⟩),.int .i64 i,.int .i64 li,.int .i64 5] w fun e w'=>e=.returned (.int .i64 0)∧MemTo W w c sy F (ps.set i {x with up:=x.up++[ms4 5 li false false]}) en es xs w':=by
 obtain ⟨z,L,rfl,rfl,rfl,h⟩:=hm
 obtain ⟨p,hp⟩:=Jr hy
 exact (zflush_5 i li p x w h hT hp hl hq hma).mono fun e w' ⟨he,p',M⟩=>⟨he,MemTo.of M rfl (YG ..)⟩
theorem mup_none (i:Nat) (x:Pt) (hy:ps[i]? =some x) (hx:x.up=[]):
 Calls Tryz.prog 80 #[.pointer (some ⟨sy,0,none⟩),.int .i64 i] w fun e w'=>e=.returned (.int .i64 14)∧Chg [] w w':=by
 obtain ⟨z,L,rfl,rfl,rfl,h⟩:=hm
 obtain ⟨p,hp⟩:=Jr hy
 exact zup_none i p x w h hp hx
theorem mup_go (i k:Nat) (x:Pt) (hy:ps[i]? =some x) (m:Ms) (rest:List Ms) (e e':En) (l:List Int) (hl:l.length=8) (ds:List Sd) (v:Int) (hT:Tab W) (hx:x.up=m::rest) (hlu:x.up.length≤1000) (hk:m.li=(k:Int)) (he:en[k]? =some e) (hX:ln (over xs es) k=l)
 (hr:askE (hereE e l hl) i m=((e',ds),v)) (hto:∀d∈ds,0≤d.to∧d.to<c.co∧mg d.m=true) (M:Nat) (hM:∀x∈ps,x.dn.length≤M) (hMn:M+ds.length≤1000):
 Calls Tryz.prog 80 #[.pointer (some ⟨sy,0,none⟩),.int .i64 i] w fun r w'=>(v≠0∧r=.returned (.int .i64 v)∧MemTo W w c sy F ps en es xs w')∨(v=0∧r=.returned (.int .i64 0)∧MemTo W w c sy F (Jf (ps.set i {x with up:=rest}) ds) (en.set k e') es xs w'):=by
 obtain ⟨z,L,rfl,rfl,rfl,h⟩:=hm
 obtain ⟨p,hp⟩:=Jr hy
 refine (zup_go i k p x m rest e e' l hl ds v w h hT hp hx hlu hk he hX hr hto M hM hMn).mono fun r w' hr2=>?_
 rcases hr2 with ⟨h1,h2,be',M1⟩|⟨h1,h2,be',ks',L',M1,hp2⟩
 ·exact .inl ⟨h1,h2,MemTo.of M1 rfl rfl⟩
 ·exact .inr ⟨h1,h2,MemTo.of M1 rfl hp2⟩
theorem manswer_none (i:Nat) (x:Pt) (hy:ps[i]? =some x) (hx:x.an=[]):
 Calls Tryz.prog 81 #[.pointer (some ⟨sy,0,none⟩),.int .i64 i] w fun e w'=>e=.returned (.int .i64 14)∧MemTo W w c sy F (ps.set i {x with an:=[]}) en es xs w':=by
 obtain ⟨z,L,rfl,rfl,rfl,h⟩:=hm
 obtain ⟨p,hp⟩:=Jr hy
 exact (zanswer_none i p x w h hp hx).mono fun e w' ⟨he,p',M⟩=>⟨he,MemTo.of M rfl (YG ..)⟩
theorem manswer_go (i k:Nat) (x:Pt) (hy:ps[i]? =some x) (m:Ms) (rest:List Ms) (e e':En) (ds:List Sd) (v:Int) (hT:Tab W) (hx:x.an=m::rest) (hlu:x.an.length≤1000) (hk:m.li=(k:Int)) (he:en[k]? =some e)
 (hr:ansE e i m=((e',ds),v)) (hto:∀d∈ds,0≤d.to∧d.to<c.co∧mg d.m=true) (M:Nat) (hM:∀x∈ps,x.dn.length≤M) (hMn:M+ds.length≤1000):
 Calls Tryz.prog 81 #[.pointer (some ⟨sy,0,none⟩),.int .i64 i] w fun r w'=>(v≠0∧r=.returned (.int .i64 v)∧MemTo W w c sy F (ps.set i {x with an:=rest}) en es xs w')∨(v=0∧r=.returned (.int .i64 0)∧MemTo W w c sy F (Jf (ps.set i {x with an:=rest}) ds) (en.set k e') es xs w'):=by
 obtain ⟨z,L,rfl,rfl,rfl,h⟩:=hm
 obtain ⟨p,hp⟩:=Jr hy
 refine (zanswer_go i k p x m rest e e' ds v w h hT hp hx hlu hk he hr hto M hM hMn).mono fun r w' hr2=>?_
 rcases hr2 with ⟨h1,h2,p',M1⟩|⟨h1,h2,ks',L',M1,hp2⟩
 ·exact .inl ⟨h1,h2,MemTo.of M1 rfl (YG ..)⟩
 ·exact .inr ⟨h1,h2,MemTo.of M1 rfl hp2⟩
theorem mhear_none (i:Nat) (x:Pt) (hy:ps[i]? =some x) (hx:x.dn=[]):
 Calls Tryz.prog 82 #[.pointer (some ⟨sy,0,none⟩),.int .i64 i] w fun e w'=>e=.returned (.tuple #[.agg (msc msZ),.int .i64 14])∧MemTo W w c sy F (ps.set i {x with dn:=[]}) en es xs w':=by
 obtain ⟨z,L,rfl,rfl,rfl,h⟩:=hm
 obtain ⟨p,hp⟩:=Jr hy
 exact (zhear_none i p x w h hp hx).mono fun e w' ⟨he,p',M⟩=>⟨he,MemTo.of M rfl (YG ..)⟩
theorem mhear_go (i:Nat) (x:Pt) (hy:ps[i]? =some x) (m:Ms) (rest:List Ms) (s':Sta) (av:List Ms) (v:Int) (hT:Tabs W) (hx:x.dn=m::rest) (hlu:x.dn.length≤1000) (hu:x.s.2≤1000000000) (hr:hearF c.se c.wa x.s m=(s',(av,v))) (ha1:av.length≤1) (hla:x.an.length<1000) (hma:∀a∈av,mg a=true):
 Calls Tryz.prog 82 #[.pointer (some ⟨sy,0,none⟩),.int .i64 i] w fun e w'=>(v≠0∧e=.returned (.tuple #[.agg (msc msZ),.int .i64 v])∧MemTo W w c sy F (ps.set i {x with s:=s',dn:=rest}) en es xs w')∨(v=0∧e=.returned (.tuple #[.agg (msc m),.int .i64 0])∧MemTo W w c sy F (ps.set i {x with s:=s',an:=x.an++av,dn:=rest}) en es xs w'):=by
 obtain ⟨z,L,rfl,rfl,rfl,h⟩:=hm
 obtain ⟨p,hp⟩:=Jr hy
 refine (zhear_go i p x m rest s' av v w h hT hp hx hlu hu hr ha1 hla hma).mono fun r w' hr2=>?_
 rcases hr2 with ⟨h1,h2,p',M1⟩|⟨h1,h2,ks',p',M1⟩
 ·exact .inl ⟨h1,h2,MemTo.of M1 rfl (YG ..)⟩
 ·exact .inr ⟨h1,h2,MemTo.of M1 rfl (YG ..)⟩
theorem mdrop_kept (i:Nat) (e:En) (he:en[i]? =some e) (hd:Qdg e=true):
 Calls Tryz.prog 87 #[.pointer (some ⟨sy,0,none⟩),.int .i64 i] w fun r w'=>r=.returned (.int .i64 16)∧Chg [] w w':=by
 obtain ⟨z,L,rfl,rfl,rfl,h⟩:=hm
 exact zdrop_kept i e w h he hd
theorem mdrop_go (i:Nat) (e:En) (hT:Tab W) (he:en[i]? =some e) (hd:Qdg e=false) (v:Int) (hv:Qat c es i e=v) (es':List Ent) (hs:Ju c es i e=es') (M:Nat) (hM:∀x∈ps,x.dn.length≤M) (hMn:M≤1000):
 Calls Tryz.prog 87 #[.pointer (some ⟨sy,0,none⟩),.int .i64 i] w fun r w'=>(v≠0∧r=.returned (.int .i64 v)∧MemTo W w c sy F ps en es' xs w')∨(v=0∧r=.returned (.int .i64 0)∧MemTo W w c sy F ps (en.set i enE) es' xs w'):=by
 obtain ⟨z,L,rfl,rfl,rfl,h⟩:=hm
 refine (zdrop_go i e w h hT he hd v hv es' hs M hM hMn).mono fun r w' hr2=>?_
 rcases hr2 with ⟨h1,h2,be',M1⟩|⟨h1,h2,be',ks',L',M1,hp2⟩
 ·exact .inl ⟨h1,h2,MemTo.of M1 rfl rfl⟩
 ·exact .inr ⟨h1,h2,MemTo.of M1 rfl hp2⟩
theorem mdrain_ok (k:Int) (hk:inB k c.li=true):
 Calls Tryz.prog 88 #[.pointer (some ⟨sy,0,none⟩),.int .i64 k] w fun e w'=>e=.returned (.int .i64 (Qbr es k))∧MemTo W w c sy F ps en (J4 es k) (JW xs es k) w':=by
 obtain ⟨z,L,rfl,rfl,rfl,h⟩:=hm
 exact (zdrain_ok k w h hk).mono fun e w' ⟨he,be',ks',M⟩=>⟨he,MemTo.of M rfl rfl⟩
theorem mfail_ok (hc:c.Ok):
 Calls Tryz.prog 89 #[.pointer (some ⟨sy,0,none⟩)] w fun e w'=>e=.returned (.tuple #[])∧MemTo W w c sy F (List.replicate c.co (pt0 c)) (List.replicate c.li enE) [] (Jn (over xs es) c.vo) w':=by
 obtain ⟨z,L,rfl,rfl,rfl,h⟩:=hm
 exact (zfail_ok w h hc).mono fun e w' ⟨he,z',L',M,hs,hp2⟩=>⟨he,MemTo.of M hs hp2⟩
theorem mslots_ok (i:Nat) (x:Pt) (hy:ps[i]? =some x):Calls Tryz.prog 67 #[.pointer (some ⟨sy,0,none⟩),.int .i64 i] w (Qga w (live x.s.1)):=by
 obtain ⟨z,L,rfl,rfl,rfl,h⟩:=hm
 obtain ⟨p,hp⟩:=Jr hy
 exact zslots_ok i p x w h hp
theorem mqueues_ok (i:Nat) (x:Pt) (hy:ps[i]? =some x) (h1:x.up.length≤1000) (h2:x.an.length≤1000) (h3:x.dn.length≤1000):Calls Tryz.prog 66 #[.pointer (some ⟨sy,0,none⟩),.int .i64 i] w (Qus w x):=by
 obtain ⟨z,L,rfl,rfl,rfl,h⟩:=hm
 obtain ⟨p,hp⟩:=Jr hy
 exact zqueues_ok i p x w h hp h1 h2 h3
theorem Qco:Calls Tryz.prog 16 #[.pointer (some ⟨sy,0,none⟩)] w (Qbu w c.li (over xs es)):=by
 obtain ⟨z,L,rfl,rfl,rfl,h⟩:=hm
 exact zmemory_ok w h
theorem mload_no (k li:Int) (wd:Int) (hk:inB k c.co=false):Calls Tryz.prog 193 #[.pointer (some ⟨sy,0,none⟩),.int .i64 k,.int .i64 li,.int .i64 wd] w fun e w'=>e=.returned (.tuple #[.int .u64 0,.bool false])∧w=w':=by
 obtain ⟨z,L,rfl,rfl,rfl,h⟩:=hm
 exact zload_no k li wd w h hk
theorem mload_off (i:Nat) (li:Int) (wd:Int) (hi:i<c.co) (hl:inB li c.li=false):Calls Tryz.prog 193 #[.pointer (some ⟨sy,0,none⟩),.int .i64 i,.int .i64 li,.int .i64 wd] w fun e w'=>e=.returned (.tuple #[.int .u64 0,.bool false])∧w=w':=by
 obtain ⟨z,L,rfl,rfl,rfl,h⟩:=hm
 exact zload_off i li wd w h hi hl
theorem mstore_no (k li:Int) (wd v:Int) (hk:inB k c.co=false):Calls Tryz.prog 143 #[.pointer (some ⟨sy,0,none⟩),.int .i64 k,.int .i64 li,.int .i64 wd,.int .u64 v] w fun e w'=>e=.returned (.bool false)∧w=w':=by
 obtain ⟨z,L,rfl,rfl,rfl,h⟩:=hm
 exact zstore_no k li wd v w h hk
theorem mstore_off (i:Nat) (li:Int) (wd v:Int) (hi:i<c.co) (hl:inB li c.li=false):Calls Tryz.prog 143 #[.pointer (some ⟨sy,0,none⟩),.int .i64 i,.int .i64 li,.int .i64 wd,.int .u64 v] w fun e w'=>e=.returned (.bool false)∧w=w':=by
 obtain ⟨z,L,rfl,rfl,rfl,h⟩:=hm
 exact zstore_off i li wd v w h hi hl
theorem mreach_no (k li:Int) (hk:inB k c.co=false):Calls Tryz.prog 195 #[.pointer (some ⟨sy,0,none⟩),.int .i64 k,.int .i64 li] w fun e w'=>e=.returned (.bool false)∧w=w':=by
 obtain ⟨z,L,rfl,rfl,rfl,h⟩:=hm
 exact zreach_no k li w h hk
theorem mreach_off (i:Nat) (li:Int) (hi:i<c.co) (hl:inB li c.li=false):Calls Tryz.prog 195 #[.pointer (some ⟨sy,0,none⟩),.int .i64 i,.int .i64 li] w fun e w'=>e=.returned (.bool false)∧w=w':=by
 obtain ⟨z,L,rfl,rfl,rfl,h⟩:=hm
 exact zreach_off i li w h hi hl
theorem mevict_no (k li:Int) (hk:inB k c.co=false):Calls Tryz.prog 86 #[.pointer (some ⟨sy,0,none⟩),.int .i64 k,.int .i64 li] w fun e w'=>e=.returned (.int .i64 1)∧w=w':=by
 obtain ⟨z,L,rfl,rfl,rfl,h⟩:=hm
 exact zevict_no k li w h hk
theorem mevict_off (i:Nat) (li:Int) (hi:i<c.co) (hl:inB li c.li=false):Calls Tryz.prog 86 #[.pointer (some ⟨sy,0,none⟩),.int .i64 i,.int .i64 li] w fun e w'=>e=.returned (.int .i64 1)∧w=w':=by
 obtain ⟨z,L,rfl,rfl,rfl,h⟩:=hm
 exact zevict_off i li w h hi hl
theorem mflush_no (k li:Int) (kd:Int) (hk:inB k c.co=false):Calls Tryz.prog 145 #[.pointer (some ⟨sy,0,none⟩),.int .i64 k,.int .i64 li,.int .i64 kd] w fun e w'=>e=.returned (.int .i64 1)∧w=w':=by
 obtain ⟨z,L,rfl,rfl,rfl,h⟩:=hm
 exact zflush_no k li kd w h hk
theorem mflush_off (i:Nat) (li:Int) (kd:Int) (hi:i<c.co) (hl:inB li c.li=false):Calls Tryz.prog 145 #[.pointer (some ⟨sy,0,none⟩),.int .i64 i,.int .i64 li,.int .i64 kd] w fun e w'=>e=.returned (.int .i64 1)∧w=w':=by
 obtain ⟨z,L,rfl,rfl,rfl,h⟩:=hm
 exact zflush_off i li kd w h hi hl
theorem mflush_kind (i:Nat) (li kd:Int) (hi:i<c.co) (hl:inB li c.li=true) (h4:kd≠4) (h5:kd≠5):Calls Tryz.prog 145 #[.pointer (some ⟨sy,0,none⟩),.int .i64 i,.int .i64 li,.int .i64 kd] w fun e w'=>e=.returned (.int .i64 1)∧w=w':=by
 obtain ⟨z,L,rfl,rfl,rfl,h⟩:=hm
 exact zflush_kind i li kd w h hi hl h4 h5
theorem mup_no (k:Int) (hk:inB k c.co=false):Calls Tryz.prog 80 #[.pointer (some ⟨sy,0,none⟩),.int .i64 k] w fun e w'=>e=.returned (.int .i64 1)∧w=w':=by
 obtain ⟨z,L,rfl,rfl,rfl,h⟩:=hm
 exact zup_no k w h hk
theorem manswer_no (k:Int) (hk:inB k c.co=false):Calls Tryz.prog 81 #[.pointer (some ⟨sy,0,none⟩),.int .i64 k] w fun e w'=>e=.returned (.int .i64 1)∧w=w':=by
 obtain ⟨z,L,rfl,rfl,rfl,h⟩:=hm
 exact zanswer_no k w h hk
theorem mhear_no (k:Int) (hk:inB k c.co=false):Calls Tryz.prog 82 #[.pointer (some ⟨sy,0,none⟩),.int .i64 k] w fun e w'=>e=.returned (.tuple #[.agg (msc msZ),.int .i64 1])∧Chg [] w w':=by
 obtain ⟨z,L,rfl,rfl,rfl,h⟩:=hm
 exact zhear_no k w h hk
theorem mdrop_off (k:Int) (hk:inB k c.li=false):Calls Tryz.prog 87 #[.pointer (some ⟨sy,0,none⟩),.int .i64 k] w fun e w'=>e=.returned (.int .i64 1)∧w=w':=by
 obtain ⟨z,L,rfl,rfl,rfl,h⟩:=hm
 exact zdrop_off k w h hk
theorem mdrain_off (k:Int) (hk:inB k c.li=false):Calls Tryz.prog 88 #[.pointer (some ⟨sy,0,none⟩),.int .i64 k] w fun e w'=>e=.returned (.int .i64 1)∧w=w':=by
 obtain ⟨z,L,rfl,rfl,rfl,h⟩:=hm
 exact zdrain_off k w h hk
end
theorem mnew_none (W w:World) (c:Cg) (hc:c.Ok) (hW:Chg [] W w) (A:Option Addr) (nc:Nat):Calls Tryz.prog 24 #[.agg c.cells,.slice A 0 nc] w fun e w'=>∃sy F,e=.returned (.tuple #[.pointer (some ⟨sy,0,none⟩),.int .i64 0])∧Mem W w' c sy F (List.replicate c.co (pt0 c)) (List.replicate c.li enE) [] (List.replicate (c.li*8) 0)∧Chg [] w w'∧∀k∈F,w.heap.size≤k:=
 (znew_none W w c hc hW A nc).mono fun e w' ⟨z,L,he,hm,hp,hc,hk⟩=>⟨z.sy,z.all L,he,⟨z,L,rfl,rfl,hp,hm⟩,hc,hk⟩
end
section
set_option maxHeartbeats 1000000
set_option maxRecDepth 100000
attribute [local go_sem ↓] Qv QF Qx QP QG Qs Zg Q7 ZH Zt Qk Qh heap_alloc Ql heap_setCell Qc XG XP XO Zi ZP Zu Xk ZQ Xq Xp Xy Xx
attribute [local go_sem] Qb Qa Qe Qi Qd Qg Qf Qt Zk Zf ZE QB Qw QN QL QM Q6 QJ QA Qr QD QX QI Qq QC Qp Qj Qo Qn Qm Zj Zv lit8 QV Xc ZG ZL ZV Zn ZM Xj ZN QH ZO Zx Zy QZ QY Zb XB
attribute [local simp ↓] Qk Qh heap_alloc Ql heap_setCell Qc
attribute [local simp] Qb Qa Qe Qi Qd Qg Qf Qt Qr Qj Qo Qn Qm QV QH QZ QY Zb QD
attribute [local go_sem ↓] Qa3 Qa4 Qa2 Qa1 Qa6 Qa5 Qa0 Qbg
attribute [local go_sem] Y9 Qax Y8 XQ XT Zh Jo Yf Qbh Z9 Zp Zo Zm Zr Zq Zl Zd Zc ZD ZA Jj Yc
attribute [local simp] Zh ZA Zp Zo Zm Zr Zq Zl Zd Zc ZD
attribute [local go_sem ↓] Jl Yb Jk Ya Yg
attribute [local go_sem] Jh Jg Ye Ji QQ QU YH
attribute [local simp] Yg QQ QU QD Z9
attribute [local go_sem ↓] YL Y0 Y1 J5
attribute [local simp] YL
attribute [local go_sem ↓] Qdn Qiz Qix Qiy
attribute [local go_sem] Qdi Qba Qd2 Qd1
section
variable {W w:World} {c:Cg} {sy:Nat} {F:List Nat} {ps:List Pt} {en:List En} {es:List Ent} {xs:List Int} (hm:Mem W w c sy F ps en es xs)
include hm
end
def kc:Cg:=⟨2,6,1,1,2,2,2⟩
theorem kc_ok:kc.Ok:=⟨by decide,by decide,by decide,by decide,by decide,by decide,by decide,by decide,by decide,by decide,by decide⟩
def ke3:En:=⟨true,true,[0,7,0,0,0,0,0,0], -1,3#8,0,0,0#8,rfl⟩
theorem results_cg {fn:Func} {p:Tmp} (h:fn.results=#[.cell p 23]) (tmps:Array Value) (w:World) (b:Nat) (x:Cg) (fr:Nat×Nat)
 (hp:tmps.getD p undef=.pointer (some ⟨b,0,none⟩)) (hb:w.heap[b]? =some (.cells x.cells 23 fr)):(results fn tmps).run Tryz.prog w=.ok (.agg x.cells) w:=by
 have hp':tmps[p]?.getD undef=.pointer (some ⟨b,0,none⟩):=by simpa using hp
 have:=run_loadVar_row (P:=Tryz.prog) w b 23 23 x.cells fr _ hb Tryz.underlying23 rfl (by rw [Qba];kernel_rfl)
 simp [results,h,hp',asAddr,this]
def cgZ:Cg:=⟨0,0,0,0,0,0,0⟩
theorem kc_lit:(#[.int .i64 2,.int .i64 6,.int .i64 1,.int .i64 1,.int .i64 2,.int .i64 2,.int .i64 2]:Array Value)=kc.cells:=rfl
theorem storeCg (x y:Value):Instr.storeAt 23 x y=Qar 23 7 x y:=rfl
attribute [local go_sem ↓] storeCg
theorem kplain (w:World):Calls Tryz.prog 20 #[] w fun e w'=>e=.returned (.agg kc.cells)∧Chg [] w w':=by
 go_enter Tryz.func20,Tryz.ntmps20
 try dsimp only [List.append]
 go_wp2_with fail
 refine bodyPost_ret (v:=.agg kc.cells) ?_ (by rfl) ?_
 ·exact results_cg (by rfl) _ _ w.heap.size kc (0,0) (by rfl) (by rw [←kc_lit];simp)
 ·exact ⟨rfl,by (repeat' (first |with_reducible exact Chg.refl _ _|with_reducible assumption|with_reducible refine Chg.drew ?_|with_reducible refine Chg.drewN ?_ _|with_reducible refine Chg.alloc ?_ _|with_reducible refine Chg.putRow ?_ _ _ _ (.inr ?_)|with_reducible refine Chg.setCell ?_ _ _ _ (.inr ?_)|(show _≤_;first |exact Nat.le_refl _|omega|(simp;done))))⟩
theorem enc_part (z:Lay) (c:Cg) (t:TypeId) (f:Nat×Nat):XF (some (.cells (z.enc c).toArray t f)) 0 7=c.cells:=by
 rw [Xi];rfl
theorem enc_in (z:Lay) (c:Cg) (t:TypeId) (f:Nat×Nat):Qbo (some (.cells (z.enc c).toArray t f)) 0 7=true:=by
 rw [Qi]
 exact decide_eq_true (show 0+7≤(z.enc c).toArray.size by simp [Lay.enc,Cg.enc])
theorem zconfig_ok {W w:World} {c:Cg} {z:Lay} {L:List (Po×Pt)} {en:List En} {es:List Ent} {xs:List Int} (h:Msd W w c z L en es xs):Calls Tryz.prog 37 #[.pointer (some ⟨z.sy,0,none⟩)] w fun e w'=>e=.returned (.agg c.cells)∧Chg [] w w':=by
 have rS:=h.sys
 have oS:=old rS
 have p0:=fun t f=>enc_part z c t f
 have p1:=fun t f=>enc_in z c t f
 clear h
 go_enter Tryz.func37,Tryz.ntmps37
 try dsimp only [List.append]
 go_wp2_with fail
 refine bodyPost_ret (v:=.agg c.cells) ?_ (by rfl) ?_
 ·exact results_cg (by rfl) _ _ w.heap.size c (0,0) (by rfl) (by rw [Qc _ _ _ _ _ (by rw [Qbz];rfl),if_pos rfl,Qbz];exact Qg _ _ _ _ (by rw [Qba];rfl))
 ·exact ⟨rfl,by (repeat' (first |with_reducible exact Chg.refl _ _|with_reducible assumption|with_reducible refine Chg.drew ?_|with_reducible refine Chg.drewN ?_ _|with_reducible refine Chg.alloc ?_ _|with_reducible refine Chg.putRow ?_ _ _ _ (.inr ?_)|with_reducible refine Chg.setCell ?_ _ _ _ (.inr ?_)|(show _≤_;first |exact Nat.le_refl _|omega|(simp;done))))⟩
theorem J8 {W w:World} {c:Cg} {sy:Nat} {F:List Nat} {ps:List Pt} {en:List En} {es:List Ent} {xs:List Int} (hm:Mem W w c sy F ps en es xs):Calls Tryz.prog 37 #[.pointer (some ⟨sy,0,none⟩)] w fun e w'=>e=.returned (.agg c.cells)∧Chg [] w w':=by
 obtain ⟨z,L,rfl,rfl,rfl,h⟩:=hm
 exact zconfig_ok h
theorem kfield_sh (W:World):(Instr.field 107 (.agg (ec ke3)) 4).run Tryz.prog W=.ok (.int .u8 3) W:=by kernel_rfl
theorem kfield_co (W:World):(Instr.field 23 (.agg kc.cells) 0).run Tryz.prog W=.ok (.int .i64 2) W:=by kernel_rfl
attribute [local go_sem ↓] kfield_sh kfield_co
end
section
set_option maxHeartbeats 1000000
set_option maxRecDepth 100000
attribute [local go_sem ↓] Qv QF Qx QP QG Qs Zg Q7 ZH Zt Qk Qh heap_alloc Ql heap_setCell Qc XG XP XO Zi ZP Zu Xk ZQ Xq Xp Xy Xx
attribute [local go_sem] Qb Qa Qe Qi Qd Qg Qf Qt Zk Zf ZE QB Qw QN QL QM Q6 QJ QA Qr QD QX QI Qq QC Qp Qj Qo Qn Qm Zj Zv lit8 QV Xc ZG ZL ZV Zn ZM Xj ZN QH ZO Zx Zy QZ QY Zb XB
attribute [local simp ↓] Qk Qh heap_alloc Ql heap_setCell Qc
attribute [local simp] Qb Qa Qe Qi Qd Qg Qf Qt Qr Qj Qo Qn Qm QV QH QZ QY Zb QD
attribute [local go_sem ↓] Qa3 Qa4 Qa2 Qa1 Qa6 Qa5 Qa0 Qbg
attribute [local go_sem] Y9 Qax Y8 XQ XT Zh Jo Yf Qbh Z9 Zp Zo Zm Zr Zq Zl Zd Zc ZD ZA Jj Yc
attribute [local simp] Zh ZA Zp Zo Zm Zr Zq Zl Zd Zc ZD
attribute [local go_sem ↓] Jl Yb Jk Ya Yg
attribute [local go_sem] Jh Jg Ye Ji QQ QU YH
attribute [local simp] Yg QQ QU QD Z9
attribute [local go_sem ↓] YL Y0 Y1 J5
attribute [local simp] YL
structure MStp where
 kd:Int
 co:Int
 li:Int
 wd:Int
 v:Int
def mstc (x:MStp):Array Value:=#[.int .i64 x.kd,.int .i64 x.co,.int .i64 x.li,.int .i64 x.wd,.int .u64 x.v]
theorem mstc_size (x:MStp):(mstc x).size=5:=rfl
theorem mstc_0 (x:MStp):(mstc x)[0]? =some (.int .i64 x.kd):=rfl
theorem mstc_1 (x:MStp):(mstc x)[1]? =some (.int .i64 x.co):=rfl
theorem mstc_2 (x:MStp):(mstc x)[2]? =some (.int .i64 x.li):=rfl
theorem mstc_3 (x:MStp):(mstc x)[3]? =some (.int .i64 x.wd):=rfl
theorem mstc_4 (x:MStp):(mstc x)[4]? =some (.int .u64 x.v):=rfl
attribute [local go_sem ↓] mstc_0 mstc_1 mstc_2 mstc_3 mstc_4
attribute [local go_sem] mstc_size
theorem cgZ_field (W:World):(Instr.field 23 (.agg cgZ.cells) 0).run Tryz.prog W=.ok (.int .i64 0) W:=by kernel_rfl
attribute [local go_sem ↓] cgZ_field
end
section
set_option maxHeartbeats 1000000
attribute [local go_sem ↓] Qv QF Qx QP Zi QG Qs Zg Q7 ZP Zu Qk Qh heap_alloc Ql heap_setCell Qc Xq Xp Xy Xx
attribute [local go_sem] Qb Qa Qe Qi Qd Qg Qf Qt Zk Zf ZM QB Qw QN QL QM Q6 ZN QJ QA Qr QD QX QI Qq QC Qp Qj Qo Qn Qm Zv lit8 QH ZO Zx Zy
attribute [local simp ↓] Qk Qh heap_alloc Ql heap_setCell Qc
attribute [local simp] Qb Qa Qe Qi Qd Qg Qf Qt Qr Qj Qo Qn Qm QH
attribute [local go_sem ↓] Qa3 Qa4 Qa2 Qa1 Qa6 Qa5 Qa0 Qbg
attribute [local go_sem] Y9 Qax Y8 XQ XT Zh Jo Yf Qbh Z9 Zp Zo Zm Zr Zq Zl Zd Zc ZD ZA Jj Yc
attribute [local simp] Zh ZA Zp Zo Zm Zr Zq Zl Zd Zc ZD
attribute [local go_sem ↓] Jl Yb Jk Ya
attribute [local go_sem] Jh Jg
attribute [local go_sem] Ye
attribute [local go_sem] Ji
attribute [local go_sem ↓] Yg
attribute [local simp] Yg
attribute [local go_sem] QQ QU
attribute [local simp] QQ QU QD Z9
def SdsV (w:World) (xs:List Sd):Ending→World→Prop:=fun e w'=>∃A c be,e=.returned (.slice A xs.length c)∧Vec 13 226 Sd.enc w' 0 be A c xs∧(be=0∨w.heap.size≤be)∧Chg [] w w'
theorem dtellv_any (s:Mk) (m:Ms) (w:World) (h0:Old w 0):Calls Tryz.prog 170 #[.int .u8 (mi s),.agg (msc m)] w (SdsV w (XC s m)):=by
 have H0:=Vh h0
 have h8:=cores_len s
 clear h0
 go_enter Tryz.func170,Tryz.ntmps170
 try dsimp only [List.append]
 go_wp2_with fail
 refine gen_calls1 (w:=w) (b1:=w.heap.size) (x1:=.cells (msc m) 184 (0,0)) Cz1 (by simp) fun w1 C1 rM=>?_
 have oM:=old rM
 refine (gcores_any s w1 (H0.out.chg C1)).mono ?_
 rintro e w2 ⟨A,cp0,rfl,hs,hA,c2⟩
 have rM2:=c2.keep rM (by simp)
 have HA:=Vh hs
 have C2:=Vh (C1.trans c2)
 have HL:∃n,n=(Qbi s).length:=⟨_,rfl⟩
 obtain ⟨N,hN⟩:=HL
 rw [←hN] at HA h8 ⊢
 have HN:=Vh hN
 clear hs hA c2 C1 rM oM hN
 go_wp2_with fail
 go_loopw [5,11] (fun x i wr=>∃(k be cp:Nat) (B:Option Addr) (xs:List Sd),k≤N∧i=.int .i64 k∧xs=(XC s m).take k∧x=.slice B xs.length cp∧Chg [] w2 wr∧Vec 13 226 Sd.enc wr 0 be B cp xs∧(be=0∨w2.heap.size≤be)) (fun _ i _=>N-(intOf i).toNat)
 case atStart=>exact ⟨0,0,0,none,[],by omega,rfl,rfl,rfl,Chg.refl _ _,Vec.nil _ _ _ _ _,.inl rfl⟩
 case round=>
  obtain ⟨k,be,cp,B,xs,hk,rfl,hxs,rfl,hc,hvb,hbe⟩:=hrel
  by_cases hlt:k<N
  ·have g1:(k:Int)<(N:Int):=by omega
   exact Tz15
  ·obtain rfl:k=N:=by omega
   have hall:xs=XC s m:=by rw [hxs];exact List.take_of_length_le (by rw [HN.out];simp [XC])
   have HV:=Vh hvb
   have HC:=Vh (C2.out.trans hc)
   have HB:=Vh (show be=0∨w.heap.size≤be by have:=C2.out.size;omega)
   clear hvb hc hbe hxs
   go_wp2_with fail
   go_ret
   rw [←hall]
   exact ⟨_,_,_,rfl,HV.out,HB.out,HC.out⟩
end
section
set_option maxHeartbeats 1000000
set_option maxRecDepth 100000
attribute [local go_sem ↓] Qv QF Qx QP Zi QG Qs Zg Q7 ZP Zu Qk Qh heap_alloc Ql heap_setCell Qc Xq Xp Xy Xx
attribute [local go_sem] Qb Qa Qe Qi Qd Qg Qf Qt Zk Zf ZM QB Qw QN QL QM Q6 ZN QJ QA Qr QD QX QI Qq QC Qp Qj Qo Qn Qm Zv lit8 QH ZO Zx Zy
attribute [local simp ↓] Qk Qh heap_alloc Ql heap_setCell Qc
attribute [local simp] Qb Qa Qe Qi Qd Qg Qf Qt Qr Qj Qo Qn Qm QH
attribute [local go_sem ↓] Qa3 Qa4 Qa2 Qa1 Qa6 Qa5 Qa0 Qbg
attribute [local go_sem] Y9 Qax Y8 XQ XT Zh Jo Yf Qbh Z9 Zp Zo Zm Zr Zq Zl Zd Zc ZD ZA Jj Yc
attribute [local simp] Zh ZA Zp Zo Zm Zr Zq Zl Zd Zc ZD
attribute [local go_sem ↓] Jl Yb Jk Ya Yg
attribute [local go_sem] Jh Jg Ye Ji QQ QU YH
attribute [local simp] Yg QQ QU QD Z9
theorem dtellv4_any (s:Mk) (kd li:Int) (di ke:Bool) (w:World) (h0:Old w 0):Calls Tryz.prog 170 #[.int .u8 (mi s),.agg #[.int .i64 kd,.int .i64 li,.bool di,.bool ke,.int .u64 0,.int .u64 0,.int .u64 0,.int .u64 0,.int .u64 0,.int .u64 0,.int .u64 0,.int .u64 0]] w (SdsV w (XC s (ms4 kd li di ke)))
 :=dtellv_any s (ms4 kd li di ke) w h0
def En3V (w:World) (r:(En×List Sd)×Int):Ending→World→Prop:=fun e w'=>∃A c be,e=.returned (.tuple #[.agg (ec r.1.1),.slice A r.1.2.length c,.int .i64 r.2])∧Vec 13 226 Sd.enc w' 0 be A c r.1.2∧(be=0∨w.heap.size≤be)∧Chg [] w w'
theorem En3V.err (w w':World) (n:Int) (h:Chg [] w w'):En3V w ((enZ,[]),n) (.returned (.tuple #[.agg (ec enZ),.slice none 0 0,.int .i64 n])) w':=⟨none,0,0,rfl,.inl ⟨rfl,rfl,rfl,rfl⟩,.inl rfl,h⟩
theorem Qg0 (x:En) (w:World) (h0:Old w 0):Calls Tryz.prog 121 #[.agg (ec x)] w (En3V w (Qc4 x)):=by
 cases hr:Jy x
 ·rw [show Qc4 x=((enZ,[]),16) from by simp [Qc4,hr]]
  go_enter Tryz.func121,Tryz.ntmps121
  try dsimp only [List.append]
  go_wp2_with fail
  refine gen_calls2 (w:=w) (b1:=w.heap.size) (x1:=.cells (ec (x)) 107 (0,0)) (b2:=w.heap.size+1) (x2:=.cells (ec (enZ)) 107 (0,0)) Cz0 (by simp [*]) (by simp [*]) fun w1 C1 rE rR=>?_
  have oE:=old rE
  have oR:=old rR
  refine (dready_at x _ hr w1).mono ?_
  rintro e w3 ⟨rfl,c3⟩
  have rE3:=c3.keep rE (by simp)
  have rR3:=c3.keep rR (by simp)
  have C3:=C1.trans c3
  clear rE rR oE oR C1 c3
  have oE3:=old rE3
  have oR3:=old rR3
  go_wp2_with fail
  refine bodyPost_ret (v:=.tuple #[.agg (ec enZ),.slice none 0 0,.int .i64 16]) ?_ (by rfl) ?_
  ·exact XA (by rfl) _ _ (w.heap.size+1) enZ (0,0) (by rfl) (by simp [rR3];try rfl) _ _ (by rfl) (by rfl)
  exact En3V.err _ _ _ Cz0
 ·rw [show Qc4 x=(((Js x).setDi false,XC (bitM x.by_) (ms4 14 0 false false)),0) from by simp [Qc4,hr]]
  go_enter Tryz.func121,Tryz.ntmps121
  try dsimp only [List.append]
  go_wp2_with fail
  refine gen_calls2 (w:=w) (b1:=w.heap.size) (x1:=.cells (ec (x)) 107 (0,0)) (b2:=w.heap.size+1) (x2:=.cells (ec (enZ)) 107 (0,0)) Cz0 (by simp [*]) (by simp [*]) fun w1 C1 rE rR=>?_
  have oE:=old rE
  have oR:=old rR
  refine (dready_at x _ hr w1).mono ?_
  rintro e w3 ⟨rfl,c3⟩
  have rE3:=c3.keep rE (by simp)
  have rR3:=c3.keep rR (by simp)
  have C3:=C1.trans c3
  clear rE rR oE oR C1 c3
  have oE3:=old rE3
  have oR3:=old rR3
  go_wp2_with fail
  refine (Qiu x w3).mono ?_
  rintro e w4 ⟨rfl,c4⟩
  have rE4:=c4.keep rE3 (by simp)
  have rR4:=c4.keep rR3 (by simp)
  have C4:=C3.trans c4
  clear rE3 rR3 oE3 oR3 C3 c4
  have oE4:=old rE4
  have oR4:=old rR4
  go_wp2_with fail
  refine J9 (w:=w) (b1:=w.heap.size) (x1:=.cells (ec ((Js x).setDi false)) 107 (0,0)) (b2:=w.heap.size+1) (x2:=.cells (ec (enZ)) 107 (0,0)) Cz0 Cz9 Cz9 fun w1 C1 rE rR=>?_
  have oE:=old rE
  have oR:=old rR
  have o0:=h0.chg C1
  go_region_held3 (fun w'=>w'.heap[w.heap.size]? =some (.cells (ec ((Js x).setDi false)) 107 (0,0))) (first |exact rE|exact c2.keep rE (by simp)|exact c2.keep (by simp [*]) (by simp)|simp [*])
   (first
    |(go_at_call 171;refine (YR _ _).mono ?_;rintro e w' ⟨rfl,rfl⟩)
    |(go_at_call 170;refine (dtellv4_any _ _ _ _ _ _ Cz7).mono ?_;rintro e w' ⟨A2,n2,be,rfl,hs2,hA2,c2⟩;(have hA3:be=0∨w1.heap.size≤be:=(by simpa using hA2));(first |(have rR2:=c2.keep rR (by simp))|(have rR2:=c2.keep (x:=.cells (ec ((Js x).setDi false)) 107 (0,0)) (k:=w.heap.size+1) (by simp [rR]) (by simp)))))
  all_goals
   go_wp2_with fail
   refine bodyPost_ret (v:=.tuple #[.agg (ec ((Js x).setDi false)),.slice A2 (XC (bitM x.by_) (ms4 14 0 false false)).length n2,.int .i64 0]) ?_ (by rfl) ?_
   ·exact XA (by rfl) _ _ (w.heap.size+1) _ (0,0) (by rfl) Cz8 _ _ (by rfl) (by rfl)
   refine ⟨A2,n2,be,rfl,?_,hA3.imp id (Nat.le_trans C1.size),by (repeat' (first |with_reducible exact Chg.refl _ _|with_reducible assumption|with_reducible refine Chg.drew ?_|with_reducible refine Chg.drewN ?_ _|with_reducible refine Chg.alloc ?_ _|with_reducible refine Chg.putRow ?_ _ _ _ (.inr ?_)|with_reducible refine Chg.setCell ?_ _ _ _ (.inr ?_)|with_reducible refine Chg.trans ?_ c2|with_reducible refine Chg.trans (b:=World.drew _) ?_ c2|(show _≤_;first |exact Nat.le_refl _|omega|(simp;done))))⟩
   first
    |exact hs2
    |exact hs2.keep ((Chg.refl [w.heap.size+1] _).putRow _ _ _ (.inl (by simp))) (by have:=oR.lt;simp;omega)
end
section
set_option maxHeartbeats 1000000
set_option maxRecDepth 100000
attribute [local go_sem ↓] Qv QF Qx QP QG Qs Zg Q7 ZH Zt Qk Qh heap_alloc Ql heap_setCell Qc XG XP XO Zi ZP Zu Xk ZQ Xq Xp Xy Xx
attribute [local go_sem] Qb Qa Qe Qi Qd Qg Qf Qt Zk Zf ZE QB Qw QN QL QM Q6 QJ QA Qr QD QX QI Qq QC Qp Qj Qo Qn Qm Zj Zv lit8 QV Xc ZG ZL ZV Zn ZM Xj ZN QH ZO Zx Zy QZ QY Zb XB
attribute [local simp ↓] Qk Qh heap_alloc Ql heap_setCell Qc
attribute [local simp] Qb Qa Qe Qi Qd Qg Qf Qt Qr Qj Qo Qn Qm QV QH QZ QY Zb QD
attribute [local go_sem ↓] Qa3 Qa4 Qa2 Qa1 Qa6 Qa5 Qa0 Qbg
attribute [local go_sem] Y9 Qax Y8 XQ XT Zh Jo Yf Qbh Z9 Zp Zo Zm Zr Zq Zl Zd Zc ZD ZA Jj Yc
attribute [local simp] Zh ZA Zp Zo Zm Zr Zq Zl Zd Zc ZD
attribute [local go_sem ↓] Jl Yb Jk Ya Yg
attribute [local go_sem] Jh Jg Ye Ji QQ QU YH
attribute [local simp] Yg QQ QU QD Z9
attribute [local go_sem ↓] YL Y0 Y1 J5
attribute [local simp] YL
section
variable {W:World} {c:Cg} {z:Lay} {L:List (Po×Pt)} {en:List En} {es:List Ent} {xs:List Int}
theorem zpush_off (k:Int) (w:World) (h:Msd W w c z L en es xs) (hk:inB k c.li=false):Calls Tryz.prog 84 #[.pointer (some ⟨z.sy,0,none⟩),.int .i64 k] w fun r w'=>r=.returned (.int .i64 1)∧w=w':=by
 have HH:=Vh h
 have HK:=Vh hk
 clear h hk
 go_enter Tryz.func84,Tryz.ntmps84
 try dsimp only [List.append]
 go_wp2_with (first |(go_at_call 69;refine (Z8 k false HK.out _ HH.out).mono ?_;rintro e w' ⟨rfl,rfl⟩))
 go_ret
 exact ⟨rfl,rfl⟩
theorem zpush_wait (i:Nat) (e:En) (w:World) (h:Msd W w c z L en es xs) (hT:Tab W) (he:en[i]? =some e) (hd:Jy e=false):Calls Tryz.prog 84 #[.pointer (some ⟨z.sy,0,none⟩),.int .i64 i] w fun r w'=>r=.returned (.int .i64 16)∧Chg [] w w':=by
 have hi:i<c.li:=by rw [←h.lines];exact (Vg he).1
 have rS:=h.sys
 have rE:=h.ents
 have oS:=old rS
 have oE:=old rE
 have p0:=fun t f=>erow he t f
 have p1:=fun t f=>Qev he t f
 have g0:(0:Int)≤(i:Int):=by omega
 have g1:(i:Int)<(c.li:Int):=by omega
 have HH:=Vh h
 have HB:=Vh (show inB (i:Int) c.li=true by unfold inB;simp;omega)
 have HE:=Vh he
 have HT:=Vh (hT.keep h.chg (by simp)).old0
 have HP:=Vh (show Qc4 e=((enZ,[]),16) by unfold Qc4;rw [if_neg (by simp [hd])])
 have HK:=Vh (fun w1 (o:Old w1 0)=>HP.out▸Qg0 e w1 o)
 clear h he hi hd hT
 go_enter Tryz.func84,Tryz.ntmps84
 try dsimp only [List.append]
 go_wp2_with (first |(go_at_call 69;refine (Z8 (i:Int) true HB.out _ HH.out).mono ?_;rintro e w' ⟨rfl,rfl⟩))
 refine (HK.out _ HT.out).mono ?_
 rintro r w2 ⟨A,n,be1,rfl,hs,hA,hc⟩
 have HC:=Vh hc
 clear hs hA hc rS rE oS oE
 go_wp2_with fail
 go_ret
 exact ⟨rfl,HC.out.alloc _⟩
theorem MTo.aside {w w1 w2:World} {z':Lay} {L':List (Po×Pt)} {b:Nat} (h:MTo W w c z L z' L' en es xs w1) (hb:w.heap.size≤b) (hW:W.heap.size≤w.heap.size) (hn:b∉z'.all L') (hc:Chg [b] w1 w2):MTo W w c z L z' L' en es xs w2:=
 ⟨h.1.keepL hc (by simpa using hn) (by simp;omega),h.2.1.trans' hc (by simp;omega),h.2.2⟩
theorem list_set13 (l ys:List Value) (o:Nat) (v:Value) (h:(l.drop o).take 13=ys):((l.set (o+2) v).drop o).take 13=ys.set 2 v:=by
 subst h
 rw [List.drop_set,if_neg (by omega),show o+2-o=2 by omega,List.take_set]
theorem sd_line (tk k l:Int) (a b:Bool) (v:Int):(Sd.enc ⟨tk,ms4 k l a b⟩).set 2 (.int .i64 v)=Sd.enc ⟨tk,ms4 k v a b⟩:=by rfl
theorem zpush_go (i:Nat) (e:En) (w:World) (h:Msd W w c z L en es xs) (hT:Tab W) (he:en[i]? =some e) (hd:Jy e=true) (hc:isC e.by_=true) (hco:e.by_<c.co) (hg:mg (ms4 14 i false false)=true) (v:Int) (hv:Qat c es i e=v) (es':List Ent) (hs:Ju c es i e=es') (M:Nat) (hM:∀x∈ports L,x.dn.length≤M) (hMn:M+1≤1000):
 Calls Tryz.prog 84 #[.pointer (some ⟨z.sy,0,none⟩),.int .i64 i] w fun r w'=>(v≠0∧r=.returned (.int .i64 v)∧∃be',MTo W w c z L {z with be:=be'} L en es' xs w')∨
  (v=0∧r=.returned (.int .i64 0)∧∃be' ks' L',MTo W w c z L {z with be:=be',ks:=ks'} L' (en.set i ((Js e).setDi false)) es' xs w'∧ports L'=Jf (ports L) [⟨e.by_,ms4 14 i false false⟩]):=by
 have hi:i<c.li:=by rw [←h.lines];exact (Vg he).1
 have rS:=h.sys
 have rE:=h.ents
 have oS:=old rS
 have oE:=old rE
 have p0:=fun t f=>erow he t f
 have p1:=fun t f=>Qev he t f
 have g0:(0:Int)≤(i:Int):=by omega
 have g1:(i:Int)<(c.li:Int):=by omega
 have HH:=Vh h
 have HB:=Vh (show inB (i:Int) c.li=true by unfold inB;simp;omega)
 have HE:=Vh he
 have HT0:=Vh (hT.keep h.chg (by simp)).old0
 have HT:=Vh hT
 have HP:=Vh (show Qc4 e=(((Js e).setDi false,[⟨e.by_,ms4 14 0 false false⟩]),0) by unfold Qc4;rw [if_pos hd,Qhb hc])
 have HK:=Vh (fun w1 (o:Old w1 0)=>HP.out▸Qg0 e w1 o)
 have HS:=Vh (fun w1 (c1:Chg [] w w1)=>hs▸hv▸zsave_ok i e w1 (h.keep c1) he)
 have HMM:=Vh hM
 have HMN:=Vh hMn
 have HG:=Vh hg
 have HCO:=Vh hco
 have HC:=Vh (show 0≤e.by_ by unfold isC at hc;simp at hc;omega)
 have HEX:=Vh (show ∃e',(Js e).setDi false=e' from ⟨_,rfl⟩)
 clear h he hi hd hv hs hT hM hMn hg hco hc
 obtain ⟨e',he'⟩:=HEX.out
 rw [he'] at HK ⊢
 have HE':=Vh he'
 clear he' HEX HP
 go_enter Tryz.func84,Tryz.ntmps84
 try dsimp only [List.append]
 go_wp2_with (first |(go_at_call 69;refine (Z8 (i:Int) true HB.out _ HH.out).mono ?_;rintro e w' ⟨rfl,rfl⟩))
 refine (HK.out _ HT0.out).mono ?_
 rintro r w2 ⟨A,n,b,rfl,hs,hA,hc⟩
 rcases hs with ⟨_,_,_,hs⟩|⟨hb0,rfl,_,r0,rb,_⟩
 ·cases hs
 have hbw:w.heap.size≤b:=hA.resolve_left hb0
 have hx:((sq Sd.enc [(⟨e.by_,ms4 14 0 false false⟩:Sd)] r0).toList.drop 0).take 13=Sd.enc ⟨e.by_,ms4 14 0 false false⟩:=by
  simp [sq,cat,Sd.len]
 generalize sq Sd.enc [(⟨e.by_,ms4 14 0 false false⟩:Sd)] r0=cs at rb hx
 have HX:=Vh hx
 have C2:=Vh hc
 have HBW:=Vh hbw
 have ob:=old rb
 clear hx hc hA hbw hb0 rS rE oS oE
 go_wp2_with fail
 have r3:(w2.alloc (.cells (ec e') 107)).heap[w2.heap.size]? =some (.cells (ec e') 107 (0,0)):=Qbz _ _
 have C3:=Vh (C2.out.alloc (.cells (ec e') 107))
 have HW3:=Vh (show w.heap.size≤w2.heap.size from C2.out.size)
 replace rb:=((Chg.refl [] w2).alloc (.cells (ec e') 107)).keep rb Vn
 have nb3:b≠w2.heap.size:=by have:=ob.lt;omega
 generalize w2.heap.size=b3 at r3 HW3 nb3 ⊢
 generalize w2.alloc (.cells (ec e') 107)=w3 at r3 C3 rb ⊢
 clear ob
 have HNB:=Vh (show b∉z.all L from fun hm=>by have h1:=HH.out.old b hm;have h2:=HBW.out;omega)
 have HN3:=Vh (show b3∉z.all L from fun hm=>by have h1:=HH.out.old b3 hm;have h2:=HW3.out;omega)
 have HL3:=Vh (Z6 rb)
 refine (HS.out _ C3.out).mono ?_
 rintro r w4 ⟨rfl,be',M4⟩
 have HM4:=Vh M4
 replace rb:=M4.2.1.keep rb HNB.out
 replace r3:=M4.2.1.keep r3 HN3.out
 clear M4 C2
 have ob:=old rb
 have o3:=old r3
 by_cases hv:v=0
 ·obtain rfl:=hv
  have HZB:=Vh (show b∉({z with be:=be'}:Lay).all L from fun hm=>by rcases HM4.out.2.2 b hm with h1|h1;exact HNB.out h1;have:=HL3.out;omega)
  go_wp2_with fail
  go_loopw [37] (fun ix wr=>∃(j:Nat) (cs':Array Value),j≤1∧ix=.int .i64 j∧Chg [b] w4 wr∧wr.heap[b]? =some (.cells cs' 226 (0,0))∧(j=0→cs'=cs)∧(j=1→cs'=cs.setIfInBounds 2 (.int .i64 i))) (fun ix _=>1-(intOf ix).toNat)
  case atStart=>exact ⟨0,cs,by omega,rfl,Chg.refl _ _,rb,fun _=>rfl,by omega⟩
  case round=>
   obtain ⟨j,cs',hj,rfl,hc,hb,h0,h1⟩:=hrel
   have r3':=hc.keep r3 (by simp;omega)
   have HC0:=Vh hc
   have H1:=Vh h1
   clear hc h1 rb r3 ob o3
   by_cases hlt:j<1
   ·obtain rfl:j=0:=by omega
    obtain rfl:=h0 rfl
    have hcl:cs'[2]? =some (.int .i64 0):=by
     have h2:=congrArg (fun l=>l[2]?) HX.out
     rw [List.getElem?_take_of_lt (by omega),List.getElem?_drop,Array.getElem?_toList] at h2
     exact h2
    clear h0 hlt hj
    have ob:=old hb
    go_wp2_with fail
    refine ⟨⟨1,cs'.setIfInBounds 2 (.int .i64 i),by omega,rfl,HC0.out.setCell _ _ _ (.inl (by simp)),by rw [heap_setCell,if_pos rfl,hb];rfl,by omega,fun _=>rfl⟩,by simp [intOf]⟩
   ·obtain rfl:j=1:=by omega
    obtain rfl:=H1.out rfl
    have hsl:Sl wr 13 (some ⟨b,0,none⟩) 1 (cat Sd.enc [⟨e.by_,ms4 14 i false false⟩]):=⟨by simp [cat,Sd.len],.inr ⟨b,0,_,226,(0,0),rfl,hb,by
     rw [Array.toList_setIfInBounds,list_set13 _ _ 0 _ HX.out,sd_line];simp [cat]⟩⟩
    have HM5:=Vh (((HH.out.stay C3.out).trans HM4.out).aside HBW.out HH.out.chg.size HZB.out HC0.out)
    have hbec:=Qd5 i e e' (some ⟨b,0,none⟩) 1 n [⟨e.by_,ms4 14 i false false⟩] wr HM5.out.1 HT.out HE.out rfl hsl (fun _ a ha=>by cases ha;exact HZB.out) (by
     intro d hd
     simp only [List.mem_singleton] at hd
     subst hd
     exact ⟨HC.out,HCO.out,HG.out⟩) M HMM.out HMN.out
    have HBE:=Vh hbec
    clear hsl hbec h0 hb hlt hj
    have o3:=old r3'
    go_wp2_with fail
    refine HBE.out.mono ?_
    rintro r w6 ⟨rfl,L',M6,hp⟩
    have HM6:=Vh (HM5.out.trans M6)
    have HPP:=Vh hp
    clear M6 hp r3' o3
    go_wp2_with fail
    refine (HM6.out.1.count 13 (by decide) (by decide)).mono ?_
    rintro r w7 ⟨⟨v,rfl⟩,ks',M7⟩
    have HM7:=Vh (HM6.out.trans M7)
    clear M7
    go_wp2_with fail
    go_ret
    have hfin:∃be' ks' L',MTo W w c z L {z with be:=be',ks:=ks'} L' (en.set i e') es' xs w7∧ports L'=Jf (ports L) [⟨e.by_,ms4 14 i false false⟩]:=⟨be',ks',L',HM7.out,HPP.out⟩
    first
     |exact .inr ⟨rfl,rfl,hfin⟩
     |exact ⟨rfl,hfin⟩
 ·have tv:(v !=0)=true:=by simpa using hv
  go_wp2_with fail
  go_ret
  first
   |exact .inl ⟨hv,rfl,be',(HH.out.stay C3.out).trans HM4.out⟩
   |exact ⟨rfl,be',(HH.out.stay C3.out).trans HM4.out⟩
end
end
section
set_option maxHeartbeats 1000000
set_option maxRecDepth 100000
attribute [local go_sem ↓] Qv QF Qx QP QG Qs Zg Q7 ZH Zt Qk Qh heap_alloc Ql heap_setCell Qc XG XP XO Zi ZP Zu Xk ZQ Xq Xp Xy Xx
attribute [local go_sem] Qb Qa Qe Qi Qd Qg Qf Qt Zk Zf ZE QB Qw QN QL QM Q6 QJ QA Qr QD QX QI Qq QC Qp Qj Qo Qn Qm Zj Zv lit8 QV Xc ZG ZL ZV Zn ZM Xj ZN QH ZO Zx Zy QZ QY Zb XB
attribute [local simp ↓] Qk Qh heap_alloc Ql heap_setCell Qc
attribute [local simp] Qb Qa Qe Qi Qd Qg Qf Qt Qr Qj Qo Qn Qm QV QH QZ QY Zb QD
attribute [local go_sem ↓] Qa3 Qa4 Qa2 Qa1 Qa6 Qa5 Qa0 Qbg
attribute [local go_sem] Y9 Qax Y8 XQ XT Zh Jo Yf Qbh Z9 Zp Zo Zm Zr Zq Zl Zd Zc ZD ZA Jj Yc
attribute [local simp] Zh ZA Zp Zo Zm Zr Zq Zl Zd Zc ZD
attribute [local go_sem ↓] Jl Yb Jk Ya Yg
attribute [local go_sem] Jh Jg Ye Ji QQ QU YH
attribute [local simp] Yg QQ QU QD Z9
section
variable {W w w':World} {c:Cg} {sy:Nat} {F:List Nat} {ps:List Pt} {en:List En} {es:List Ent} {xs:List Int} (hm:Mem W w c sy F ps en es xs)
include hm
theorem mpush_off (k:Int) (hk:inB k c.li=false):Calls Tryz.prog 84 #[.pointer (some ⟨sy,0,none⟩),.int .i64 k] w fun e w'=>e=.returned (.int .i64 1)∧w=w':=by
 obtain ⟨z,L,rfl,rfl,rfl,h⟩:=hm
 exact zpush_off k w h hk
theorem mpush_wait (i:Nat) (e:En) (hT:Tab W) (he:en[i]? =some e) (hd:Jy e=false):Calls Tryz.prog 84 #[.pointer (some ⟨sy,0,none⟩),.int .i64 i] w fun r w'=>r=.returned (.int .i64 16)∧Chg [] w w':=by
 obtain ⟨z,L,rfl,rfl,rfl,h⟩:=hm
 exact zpush_wait i e w h hT he hd
theorem mpush_go (i:Nat) (e:En) (hT:Tab W) (he:en[i]? =some e) (hd:Jy e=true) (hc:isC e.by_=true) (hco:e.by_<c.co) (hg:mg (ms4 14 i false false)=true) (v:Int) (hv:Qat c es i e=v) (es':List Ent) (hs:Ju c es i e=es') (M:Nat) (hM:∀x∈ps,x.dn.length≤M) (hMn:M+1≤1000):
 Calls Tryz.prog 84 #[.pointer (some ⟨sy,0,none⟩),.int .i64 i] w fun r w'=>(v≠0∧r=.returned (.int .i64 v)∧MemTo W w c sy F ps en es' xs w')∨(v=0∧r=.returned (.int .i64 0)∧MemTo W w c sy F (Jf ps [⟨e.by_,ms4 14 i false false⟩]) (en.set i ((Js e).setDi false)) es' xs w'):=by
 obtain ⟨z,L,rfl,rfl,rfl,h⟩:=hm
 refine (zpush_go i e w h hT he hd hc hco hg v hv es' hs M hM hMn).mono fun r w' hr2=>?_
 rcases hr2 with ⟨h1,h2,be',M1⟩|⟨h1,h2,be',ks',L',M1,hp2⟩
 ·exact .inl ⟨h1,h2,MemTo.of M1 rfl rfl⟩
 ·exact .inr ⟨h1,h2,MemTo.of M1 rfl hp2⟩
end
end
end Go.Proofs.YtlidfghgjjffaaaGreatDoor
