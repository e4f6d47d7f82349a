/- Texts of the walk, one behind the other: Rea Reb Wordc Mgj. No condition. -/
import Derived.Test.YtlidfghgjjffaaaGreatDoorMQaa
import Derived.Test.YtlidfghgjjffaaaGreatDoorMQaj
import Derived.Test.YtlidfghgjjffaaaGreatDoorMQan
import Derived.BigGuard
import Derived.BigGuardPart
import Derived.BigQuiet
import Derived.ChangeKeysEq
import Derived.Deep.Cut
import Derived.Deep.CutBlock
import Derived.Deep.CutRange
import Derived.Deep.DeepCutAuto
import Derived.Deep.QuietTactic
import Derived.Deep.RegionHeld3
import Derived.Deep.RegionWith
import Derived.Laws.StructEq
namespace Go.Proofs.YtlidfghgjjffaaaGreatDoor
open Go.RowKit
set_option linter.unusedVariables false
set_option maxRecDepth 100000
section
set_option maxHeartbeats 1000000
def letH (op:Int):List UInt8:=if op=1 then [65,73] else if (2≤op∧op≤7)∨op=10∨op=11 then [65,66,67] else if op=8∨op=9∨(18≤op∧op≤20) then [65,66,73] else if 12≤op∧op≤14 then [66,73] else if op=17 then [73] else if op=21 then [65] else []
theorem rHas (op:Int) (l:List UInt8) (h0:0≤op) (h22:op≤22) (hl:letH op=l) (w:World):Calls Tryz.prog 130 #[.int .i64 op] w fun e w'=>e=.returned (.string ⟨l.toArray⟩)∧w=w':=by
 have h:op=0∨op=1∨op=2∨op=3∨op=4∨op=5∨op=6∨op=7∨op=8∨op=9∨op=10∨op=11∨op=12∨op=13∨op=14∨op=15∨op=16∨op=17∨op=18∨op=19∨op=20∨op=21∨op=22:=by omega
 clear h0 h22
 rcases h with rfl|rfl|rfl|rfl|rfl|rfl|rfl|rfl|rfl|rfl|rfl|rfl|rfl|rfl|rfl|rfl|rfl|rfl|rfl|rfl|rfl|rfl|rfl
 all_goals
  subst hl
  go_enter Tryz.func130,Tryz.ntmps130
  try dsimp only [List.append]
  exact Tz34
theorem rhas_at (op c:Int) (l:List UInt8) (h0:0≤op) (h22:op≤22) (hl:letH op=l) (hb:l.length≤3) (w:World):Calls Tryz.prog 96 #[.int .i64 op,.int .u8 c] w fun e w'=>e=.returned (.bool (l.any fun b=>(b.toNat:Int)==c))∧w=w':=by
 have HH:=Vh (fun w=>rHas op l h0 h22 hl w)
 clear h0 h22 hl
 go_enter Tryz.func96,Tryz.ntmps96
 go_wp2_with (go_at_call 130;refine (HH.out _).mono ?_;rintro e w' ⟨rfl,rfl⟩)
 go_loop [6] (fun i=>∃k:Nat,k≤l.length∧i=.int .i64 k∧∀j,j<k→∀b,l[j]? =some b→((b.toNat:Int)==c)=false) (fun i=>l.length-(intOf i).toNat)
 case atStart=>exact ⟨0,by omega,rfl,fun j hj=>by omega⟩
 case round=>
  obtain ⟨k,hk,rfl,hall⟩:=hrel
  have HA:=Vh hall
  clear hall
  by_cases hlt:k<l.length
  ·obtain ⟨b,hbk⟩:∃b,l[k]? =some b:=⟨l[k],List.getElem?_eq_getElem hlt⟩
   have HB:=Vh hbk
   have HLT:=Vh hlt
   have g1:(k:Int)<(l.length:Int):=by omega
   have g0:(0:Int)≤(k:Int):=by omega
   have HE:=Vh (show ∀(h:k<(⟨l.toArray⟩:ByteArray).size),(⟨l.toArray⟩:ByteArray)[k]=b from fun _=>(Vg hbk).2)
   go_wp2_with fail
   ·rename_i h _
    rw [HE.out] at h
    go_ret
    refine ⟨?_,rfl⟩
    rw [show (l.any fun b=>(b.toNat:Int)==c)=true from List.any_eq_true.2 ⟨b,List.mem_of_getElem? HB.out,h⟩]
    rfl
   ·rename_i h
    rw [HE.out] at h
    refine ⟨⟨k+1,by have:=HLT.out;omega,by go_num,fun j hj b' hb'=>?_⟩,?_⟩
    ·by_cases hjk:j=k
     ·subst hjk
      have:=HB.out
      rw [hb'] at this
      injection this with this
      rw [this];exact h
     ·exact HA.out j (by omega) b' hb'
    ·have:=HLT.out
     simp [intOf]
     omega
  ·have hkl:k=l.length:=by omega
   subst hkl
   go_wp2_with fail
   go_ret
   refine ⟨?_,rfl⟩
   have:(l.any fun b=>(b.toNat:Int)==c)=false:=by
    rw [List.any_eq_false]
    intro b hb
    obtain ⟨j,hj⟩:=List.getElem?_of_mem hb
    have:=HA.out j (Vg hj).1 b hj
    simp [this]
   rw [this]
   rfl
theorem let_A (op:Int) (h0:0≤op) (h22:op≤22):(letH op).any (fun b=>(b.toNat:Int)==65)=hasA op∧(letH op).any (fun b=>(b.toNat:Int)==66)=hasB op∧(letH op).any (fun b=>(b.toNat:Int)==67)=hasC op∧(letH op).any (fun b=>(b.toNat:Int)==73)=hasI op∧(letH op).length≤3:=by
 have h:op=0∨op=1∨op=2∨op=3∨op=4∨op=5∨op=6∨op=7∨op=8∨op=9∨op=10∨op=11∨op=12∨op=13∨op=14∨op=15∨op=16∨op=17∨op=18∨op=19∨op=20∨op=21∨op=22:=by omega
 clear h0 h22
 rcases h with rfl|rfl|rfl|rfl|rfl|rfl|rfl|rfl|rfl|rfl|rfl|rfl|rfl|rfl|rfl|rfl|rfl|rfl|rfl|rfl|rfl|rfl|rfl
 all_goals exact ⟨by decide,by decide,by decide,by decide,by decide⟩
theorem JH (op:Int) (h0:0≤op) (h22:op≤22) (w:World):Calls Tryz.prog 96 #[.int .i64 op,.int .u8 65] w fun e w'=>e=.returned (.bool (hasA op))∧w=w':=by
 have h:=let_A op h0 h22
 rw [←h.1];exact rhas_at op 65 _ h0 h22 rfl h.2.2.2.2 w
theorem JG (op:Int) (h0:0≤op) (h22:op≤22) (w:World):Calls Tryz.prog 96 #[.int .i64 op,.int .u8 66] w fun e w'=>e=.returned (.bool (hasB op))∧w=w':=by
 have h:=let_A op h0 h22
 rw [←h.2.1];exact rhas_at op 66 _ h0 h22 rfl h.2.2.2.2 w
theorem JF (op:Int) (h0:0≤op) (h22:op≤22) (w:World):Calls Tryz.prog 96 #[.int .i64 op,.int .u8 67] w fun e w'=>e=.returned (.bool (hasC op))∧w=w':=by
 have h:=let_A op h0 h22
 rw [←h.2.2.1];exact rhas_at op 67 _ h0 h22 rfl h.2.2.2.2 w
theorem JE (op:Int) (h0:0≤op) (h22:op≤22) (w:World):Calls Tryz.prog 96 #[.int .i64 op,.int .u8 73] w fun e w'=>e=.returned (.bool (hasI op))∧w=w':=by
 have h:=let_A op h0 h22
 rw [←h.2.2.2.1];exact rhas_at op 73 _ h0 h22 rfl h.2.2.2.2 w
theorem rreg (n:Int) (w:World):Calls Tryz.prog 97 #[.int .i64 n] w fun e w'=>e=.returned (.bool (decide (0≤n)&&decide (n≤7)))∧w=w':=by
 cases h1:decide (0≤n)
 all_goals
  go_enter Tryz.func97,Tryz.ntmps97
  go_wp2
  go_ret
  exact ⟨rfl,rfl⟩
end
section
set_option maxHeartbeats 1000000
attribute [local go_sem ↓] QG Qs Qk Qh heap_alloc Ql heap_setCell Qc Xd ZF loadPts Qhd Xe XK XJ XI Xg pts_0 pts_1 pts_2 pts_3 pts_4
attribute [local go_sem] Qb Qa Qe Qi Qd Qg Qf QB Qw QJ QA Qr QD QX QI Qq QC Qp Qj Qo Qn Xb widePts QE ZI Xf ZJ XH Qct Qcs Qcr Qcq Qcp pts_lit Qbd pts_one pts_ne Qhl Qhk Qhj Qhi Qhh
attribute [local simp ↓] Qk Qh heap_alloc Ql heap_setCell Qc
attribute [local simp] Qb Qa Qe Qi Qd Qg Qf Qr Qj Qo Qn QE Qbd QD
attribute [local go_sem] insZ_op insZ_a insZ_b insZ_c insZ_im
theorem rgood_0 (w:World):Calls Tryz.prog 71 #[.agg (insc ⟨0,0,0,0,0⟩)] w fun e w'=>e=.returned (.bool true)∧w'=w.alloc (.cells (insc ⟨0,0,0,0,0⟩) 65):=by
 have hx:(w.alloc (.cells (insc ⟨0,0,0,0,0⟩) 65)).heap[w.heap.size]? =some (.cells (insc ⟨0,0,0,0,0⟩) 65 (0,0)):=by simp
 have LA:hasA 0=false:=by decide
 have LB:hasB 0=false:=by decide
 have LC:hasC 0=false:=by decide
 have LI:hasI 0=false:=by decide
 go_enter Tryz.func71,Tryz.ntmps71
 try dsimp only [List.append]
 go_wp2_with (first |(go_at_call 96;(with_reducible refine (JH 0 (by omega) (by omega) _).mono ?_);rintro e w' ⟨rfl,rfl⟩)|(go_at_call 96;(with_reducible refine (JG 0 (by omega) (by omega) _).mono ?_);rintro e w' ⟨rfl,rfl⟩)|(go_at_call 96;(with_reducible refine (JF 0 (by omega) (by omega) _).mono ?_);rintro e w' ⟨rfl,rfl⟩)|(go_at_call 96;(with_reducible refine (JE 0 (by omega) (by omega) _).mono ?_);rintro e w' ⟨rfl,rfl⟩))
 go_ret
 exact ⟨rfl,rfl⟩
theorem rgood_1 (a m:Int) (ha:0≤a∧a<8) (hm: -2147483648≤m∧m≤2147483647) (w:World):Calls Tryz.prog 71 #[.agg (insc ⟨1,a,0,0,m⟩)] w fun e w'=>e=.returned (.bool true)∧w'=w.alloc (.cells (insc ⟨1,a,0,0,m⟩) 65):=by
 have hx:(w.alloc (.cells (insc ⟨1,a,0,0,m⟩) 65)).heap[w.heap.size]? =some (.cells (insc ⟨1,a,0,0,m⟩) 65 (0,0)):=by simp
 have d1a:decide (0≤a)=true:=by simp;omega
 have d2a:decide (a≤7)=true:=by simp;omega
 have Ra:=Vh (fun w=>rreg a w)
 rw [d1a,d2a] at Ra
 have e1:decide (-2147483648≤m)=true:=by simp;omega
 have e2:decide (m<2147483648)=true:=by simp;omega
 have LA:hasA 1=true:=by decide
 have LB:hasB 1=false:=by decide
 have LC:hasC 1=false:=by decide
 have LI:hasI 1=true:=by decide
 clear ha hm
 go_enter Tryz.func71,Tryz.ntmps71
 try dsimp only [List.append]
 go_wp2_with (first |(go_at_call 96;(with_reducible refine (JH 1 (by omega) (by omega) _).mono ?_);rintro e w' ⟨rfl,rfl⟩)|(go_at_call 96;(with_reducible refine (JG 1 (by omega) (by omega) _).mono ?_);rintro e w' ⟨rfl,rfl⟩)|(go_at_call 96;(with_reducible refine (JF 1 (by omega) (by omega) _).mono ?_);rintro e w' ⟨rfl,rfl⟩)|(go_at_call 96;(with_reducible refine (JE 1 (by omega) (by omega) _).mono ?_);rintro e w' ⟨rfl,rfl⟩)|(go_at_call 97;(with_reducible refine (Ra.out _).mono ?_);rintro e w' ⟨rfl,rfl⟩))
 go_ret
 exact ⟨rfl,rfl⟩
theorem rgood_2 (a b c:Int) (ha:0≤a∧a<8) (hb:0≤b∧b<8) (hc:0≤c∧c<8) (w:World):Calls Tryz.prog 71 #[.agg (insc ⟨2,a,b,c,0⟩)] w fun e w'=>e=.returned (.bool true)∧w'=w.alloc (.cells (insc ⟨2,a,b,c,0⟩) 65):=by
 have hx:(w.alloc (.cells (insc ⟨2,a,b,c,0⟩) 65)).heap[w.heap.size]? =some (.cells (insc ⟨2,a,b,c,0⟩) 65 (0,0)):=by simp
 have d1a:decide (0≤a)=true:=by simp;omega
 have d2a:decide (a≤7)=true:=by simp;omega
 have Ra:=Vh (fun w=>rreg a w)
 rw [d1a,d2a] at Ra
 have d1b:decide (0≤b)=true:=by simp;omega
 have d2b:decide (b≤7)=true:=by simp;omega
 have Rb:=Vh (fun w=>rreg b w)
 rw [d1b,d2b] at Rb
 have d1c:decide (0≤c)=true:=by simp;omega
 have d2c:decide (c≤7)=true:=by simp;omega
 have Rc:=Vh (fun w=>rreg c w)
 rw [d1c,d2c] at Rc
 have LA:hasA 2=true:=by decide
 have LB:hasB 2=true:=by decide
 have LC:hasC 2=true:=by decide
 have LI:hasI 2=false:=by decide
 clear ha hb hc
 go_enter Tryz.func71,Tryz.ntmps71
 try dsimp only [List.append]
 go_wp2_with (first |(go_at_call 96;(with_reducible refine (JH 2 (by omega) (by omega) _).mono ?_);rintro e w' ⟨rfl,rfl⟩)|(go_at_call 96;(with_reducible refine (JG 2 (by omega) (by omega) _).mono ?_);rintro e w' ⟨rfl,rfl⟩)|(go_at_call 96;(with_reducible refine (JF 2 (by omega) (by omega) _).mono ?_);rintro e w' ⟨rfl,rfl⟩)|(go_at_call 96;(with_reducible refine (JE 2 (by omega) (by omega) _).mono ?_);rintro e w' ⟨rfl,rfl⟩)|(go_at_call 97;(with_reducible refine (Ra.out _).mono ?_);rintro e w' ⟨rfl,rfl⟩)|(go_at_call 97;(with_reducible refine (Rb.out _).mono ?_);rintro e w' ⟨rfl,rfl⟩)|(go_at_call 97;(with_reducible refine (Rc.out _).mono ?_);rintro e w' ⟨rfl,rfl⟩))
 go_ret
 exact ⟨rfl,rfl⟩
theorem rgood_3 (a b c:Int) (ha:0≤a∧a<8) (hb:0≤b∧b<8) (hc:0≤c∧c<8) (w:World):Calls Tryz.prog 71 #[.agg (insc ⟨3,a,b,c,0⟩)] w fun e w'=>e=.returned (.bool true)∧w'=w.alloc (.cells (insc ⟨3,a,b,c,0⟩) 65):=by
 have hx:(w.alloc (.cells (insc ⟨3,a,b,c,0⟩) 65)).heap[w.heap.size]? =some (.cells (insc ⟨3,a,b,c,0⟩) 65 (0,0)):=by simp
 have d1a:decide (0≤a)=true:=by simp;omega
 have d2a:decide (a≤7)=true:=by simp;omega
 have Ra:=Vh (fun w=>rreg a w)
 rw [d1a,d2a] at Ra
 have d1b:decide (0≤b)=true:=by simp;omega
 have d2b:decide (b≤7)=true:=by simp;omega
 have Rb:=Vh (fun w=>rreg b w)
 rw [d1b,d2b] at Rb
 have d1c:decide (0≤c)=true:=by simp;omega
 have d2c:decide (c≤7)=true:=by simp;omega
 have Rc:=Vh (fun w=>rreg c w)
 rw [d1c,d2c] at Rc
 have LA:hasA 3=true:=by decide
 have LB:hasB 3=true:=by decide
 have LC:hasC 3=true:=by decide
 have LI:hasI 3=false:=by decide
 clear ha hb hc
 go_enter Tryz.func71,Tryz.ntmps71
 try dsimp only [List.append]
 go_wp2_with (first |(go_at_call 96;(with_reducible refine (JH 3 (by omega) (by omega) _).mono ?_);rintro e w' ⟨rfl,rfl⟩)|(go_at_call 96;(with_reducible refine (JG 3 (by omega) (by omega) _).mono ?_);rintro e w' ⟨rfl,rfl⟩)|(go_at_call 96;(with_reducible refine (JF 3 (by omega) (by omega) _).mono ?_);rintro e w' ⟨rfl,rfl⟩)|(go_at_call 96;(with_reducible refine (JE 3 (by omega) (by omega) _).mono ?_);rintro e w' ⟨rfl,rfl⟩)|(go_at_call 97;(with_reducible refine (Ra.out _).mono ?_);rintro e w' ⟨rfl,rfl⟩)|(go_at_call 97;(with_reducible refine (Rb.out _).mono ?_);rintro e w' ⟨rfl,rfl⟩)|(go_at_call 97;(with_reducible refine (Rc.out _).mono ?_);rintro e w' ⟨rfl,rfl⟩))
 go_ret
 exact ⟨rfl,rfl⟩
theorem rgood_4 (a b c:Int) (ha:0≤a∧a<8) (hb:0≤b∧b<8) (hc:0≤c∧c<8) (w:World):Calls Tryz.prog 71 #[.agg (insc ⟨4,a,b,c,0⟩)] w fun e w'=>e=.returned (.bool true)∧w'=w.alloc (.cells (insc ⟨4,a,b,c,0⟩) 65):=by
 have hx:(w.alloc (.cells (insc ⟨4,a,b,c,0⟩) 65)).heap[w.heap.size]? =some (.cells (insc ⟨4,a,b,c,0⟩) 65 (0,0)):=by simp
 have d1a:decide (0≤a)=true:=by simp;omega
 have d2a:decide (a≤7)=true:=by simp;omega
 have Ra:=Vh (fun w=>rreg a w)
 rw [d1a,d2a] at Ra
 have d1b:decide (0≤b)=true:=by simp;omega
 have d2b:decide (b≤7)=true:=by simp;omega
 have Rb:=Vh (fun w=>rreg b w)
 rw [d1b,d2b] at Rb
 have d1c:decide (0≤c)=true:=by simp;omega
 have d2c:decide (c≤7)=true:=by simp;omega
 have Rc:=Vh (fun w=>rreg c w)
 rw [d1c,d2c] at Rc
 have LA:hasA 4=true:=by decide
 have LB:hasB 4=true:=by decide
 have LC:hasC 4=true:=by decide
 have LI:hasI 4=false:=by decide
 clear ha hb hc
 go_enter Tryz.func71,Tryz.ntmps71
 try dsimp only [List.append]
 go_wp2_with (first |(go_at_call 96;(with_reducible refine (JH 4 (by omega) (by omega) _).mono ?_);rintro e w' ⟨rfl,rfl⟩)|(go_at_call 96;(with_reducible refine (JG 4 (by omega) (by omega) _).mono ?_);rintro e w' ⟨rfl,rfl⟩)|(go_at_call 96;(with_reducible refine (JF 4 (by omega) (by omega) _).mono ?_);rintro e w' ⟨rfl,rfl⟩)|(go_at_call 96;(with_reducible refine (JE 4 (by omega) (by omega) _).mono ?_);rintro e w' ⟨rfl,rfl⟩)|(go_at_call 97;(with_reducible refine (Ra.out _).mono ?_);rintro e w' ⟨rfl,rfl⟩)|(go_at_call 97;(with_reducible refine (Rb.out _).mono ?_);rintro e w' ⟨rfl,rfl⟩)|(go_at_call 97;(with_reducible refine (Rc.out _).mono ?_);rintro e w' ⟨rfl,rfl⟩))
 go_ret
 exact ⟨rfl,rfl⟩
theorem rgood_5 (a b c:Int) (ha:0≤a∧a<8) (hb:0≤b∧b<8) (hc:0≤c∧c<8) (w:World):Calls Tryz.prog 71 #[.agg (insc ⟨5,a,b,c,0⟩)] w fun e w'=>e=.returned (.bool true)∧w'=w.alloc (.cells (insc ⟨5,a,b,c,0⟩) 65):=by
 have hx:(w.alloc (.cells (insc ⟨5,a,b,c,0⟩) 65)).heap[w.heap.size]? =some (.cells (insc ⟨5,a,b,c,0⟩) 65 (0,0)):=by simp
 have d1a:decide (0≤a)=true:=by simp;omega
 have d2a:decide (a≤7)=true:=by simp;omega
 have Ra:=Vh (fun w=>rreg a w)
 rw [d1a,d2a] at Ra
 have d1b:decide (0≤b)=true:=by simp;omega
 have d2b:decide (b≤7)=true:=by simp;omega
 have Rb:=Vh (fun w=>rreg b w)
 rw [d1b,d2b] at Rb
 have d1c:decide (0≤c)=true:=by simp;omega
 have d2c:decide (c≤7)=true:=by simp;omega
 have Rc:=Vh (fun w=>rreg c w)
 rw [d1c,d2c] at Rc
 have LA:hasA 5=true:=by decide
 have LB:hasB 5=true:=by decide
 have LC:hasC 5=true:=by decide
 have LI:hasI 5=false:=by decide
 clear ha hb hc
 go_enter Tryz.func71,Tryz.ntmps71
 try dsimp only [List.append]
 go_wp2_with (first |(go_at_call 96;(with_reducible refine (JH 5 (by omega) (by omega) _).mono ?_);rintro e w' ⟨rfl,rfl⟩)|(go_at_call 96;(with_reducible refine (JG 5 (by omega) (by omega) _).mono ?_);rintro e w' ⟨rfl,rfl⟩)|(go_at_call 96;(with_reducible refine (JF 5 (by omega) (by omega) _).mono ?_);rintro e w' ⟨rfl,rfl⟩)|(go_at_call 96;(with_reducible refine (JE 5 (by omega) (by omega) _).mono ?_);rintro e w' ⟨rfl,rfl⟩)|(go_at_call 97;(with_reducible refine (Ra.out _).mono ?_);rintro e w' ⟨rfl,rfl⟩)|(go_at_call 97;(with_reducible refine (Rb.out _).mono ?_);rintro e w' ⟨rfl,rfl⟩)|(go_at_call 97;(with_reducible refine (Rc.out _).mono ?_);rintro e w' ⟨rfl,rfl⟩))
 go_ret
 exact ⟨rfl,rfl⟩
theorem rgood_6 (a b c:Int) (ha:0≤a∧a<8) (hb:0≤b∧b<8) (hc:0≤c∧c<8) (w:World):Calls Tryz.prog 71 #[.agg (insc ⟨6,a,b,c,0⟩)] w fun e w'=>e=.returned (.bool true)∧w'=w.alloc (.cells (insc ⟨6,a,b,c,0⟩) 65):=by
 have hx:(w.alloc (.cells (insc ⟨6,a,b,c,0⟩) 65)).heap[w.heap.size]? =some (.cells (insc ⟨6,a,b,c,0⟩) 65 (0,0)):=by simp
 have d1a:decide (0≤a)=true:=by simp;omega
 have d2a:decide (a≤7)=true:=by simp;omega
 have Ra:=Vh (fun w=>rreg a w)
 rw [d1a,d2a] at Ra
 have d1b:decide (0≤b)=true:=by simp;omega
 have d2b:decide (b≤7)=true:=by simp;omega
 have Rb:=Vh (fun w=>rreg b w)
 rw [d1b,d2b] at Rb
 have d1c:decide (0≤c)=true:=by simp;omega
 have d2c:decide (c≤7)=true:=by simp;omega
 have Rc:=Vh (fun w=>rreg c w)
 rw [d1c,d2c] at Rc
 have LA:hasA 6=true:=by decide
 have LB:hasB 6=true:=by decide
 have LC:hasC 6=true:=by decide
 have LI:hasI 6=false:=by decide
 clear ha hb hc
 go_enter Tryz.func71,Tryz.ntmps71
 try dsimp only [List.append]
 go_wp2_with (first |(go_at_call 96;(with_reducible refine (JH 6 (by omega) (by omega) _).mono ?_);rintro e w' ⟨rfl,rfl⟩)|(go_at_call 96;(with_reducible refine (JG 6 (by omega) (by omega) _).mono ?_);rintro e w' ⟨rfl,rfl⟩)|(go_at_call 96;(with_reducible refine (JF 6 (by omega) (by omega) _).mono ?_);rintro e w' ⟨rfl,rfl⟩)|(go_at_call 96;(with_reducible refine (JE 6 (by omega) (by omega) _).mono ?_);rintro e w' ⟨rfl,rfl⟩)|(go_at_call 97;(with_reducible refine (Ra.out _).mono ?_);rintro e w' ⟨rfl,rfl⟩)|(go_at_call 97;(with_reducible refine (Rb.out _).mono ?_);rintro e w' ⟨rfl,rfl⟩)|(go_at_call 97;(with_reducible refine (Rc.out _).mono ?_);rintro e w' ⟨rfl,rfl⟩))
 go_ret
 exact ⟨rfl,rfl⟩
theorem rgood_7 (a b c:Int) (ha:0≤a∧a<8) (hb:0≤b∧b<8) (hc:0≤c∧c<8) (w:World):Calls Tryz.prog 71 #[.agg (insc ⟨7,a,b,c,0⟩)] w fun e w'=>e=.returned (.bool true)∧w'=w.alloc (.cells (insc ⟨7,a,b,c,0⟩) 65):=by
 have hx:(w.alloc (.cells (insc ⟨7,a,b,c,0⟩) 65)).heap[w.heap.size]? =some (.cells (insc ⟨7,a,b,c,0⟩) 65 (0,0)):=by simp
 have d1a:decide (0≤a)=true:=by simp;omega
 have d2a:decide (a≤7)=true:=by simp;omega
 have Ra:=Vh (fun w=>rreg a w)
 rw [d1a,d2a] at Ra
 have d1b:decide (0≤b)=true:=by simp;omega
 have d2b:decide (b≤7)=true:=by simp;omega
 have Rb:=Vh (fun w=>rreg b w)
 rw [d1b,d2b] at Rb
 have d1c:decide (0≤c)=true:=by simp;omega
 have d2c:decide (c≤7)=true:=by simp;omega
 have Rc:=Vh (fun w=>rreg c w)
 rw [d1c,d2c] at Rc
 have LA:hasA 7=true:=by decide
 have LB:hasB 7=true:=by decide
 have LC:hasC 7=true:=by decide
 have LI:hasI 7=false:=by decide
 clear ha hb hc
 go_enter Tryz.func71,Tryz.ntmps71
 try dsimp only [List.append]
 go_wp2_with (first |(go_at_call 96;(with_reducible refine (JH 7 (by omega) (by omega) _).mono ?_);rintro e w' ⟨rfl,rfl⟩)|(go_at_call 96;(with_reducible refine (JG 7 (by omega) (by omega) _).mono ?_);rintro e w' ⟨rfl,rfl⟩)|(go_at_call 96;(with_reducible refine (JF 7 (by omega) (by omega) _).mono ?_);rintro e w' ⟨rfl,rfl⟩)|(go_at_call 96;(with_reducible refine (JE 7 (by omega) (by omega) _).mono ?_);rintro e w' ⟨rfl,rfl⟩)|(go_at_call 97;(with_reducible refine (Ra.out _).mono ?_);rintro e w' ⟨rfl,rfl⟩)|(go_at_call 97;(with_reducible refine (Rb.out _).mono ?_);rintro e w' ⟨rfl,rfl⟩)|(go_at_call 97;(with_reducible refine (Rc.out _).mono ?_);rintro e w' ⟨rfl,rfl⟩))
 go_ret
 exact ⟨rfl,rfl⟩
theorem rgood_8 (a b m:Int) (ha:0≤a∧a<8) (hb:0≤b∧b<8) (hm: -2147483648≤m∧m≤2147483647) (w:World):Calls Tryz.prog 71 #[.agg (insc ⟨8,a,b,0,m⟩)] w fun e w'=>e=.returned (.bool true)∧w'=w.alloc (.cells (insc ⟨8,a,b,0,m⟩) 65):=by
 have hx:(w.alloc (.cells (insc ⟨8,a,b,0,m⟩) 65)).heap[w.heap.size]? =some (.cells (insc ⟨8,a,b,0,m⟩) 65 (0,0)):=by simp
 have d1a:decide (0≤a)=true:=by simp;omega
 have d2a:decide (a≤7)=true:=by simp;omega
 have Ra:=Vh (fun w=>rreg a w)
 rw [d1a,d2a] at Ra
 have d1b:decide (0≤b)=true:=by simp;omega
 have d2b:decide (b≤7)=true:=by simp;omega
 have Rb:=Vh (fun w=>rreg b w)
 rw [d1b,d2b] at Rb
 have e1:decide (-2147483648≤m)=true:=by simp;omega
 have e2:decide (m<2147483648)=true:=by simp;omega
 have LA:hasA 8=true:=by decide
 have LB:hasB 8=true:=by decide
 have LC:hasC 8=false:=by decide
 have LI:hasI 8=true:=by decide
 clear ha hb hm
 go_enter Tryz.func71,Tryz.ntmps71
 try dsimp only [List.append]
 go_wp2_with (first |(go_at_call 96;(with_reducible refine (JH 8 (by omega) (by omega) _).mono ?_);rintro e w' ⟨rfl,rfl⟩)|(go_at_call 96;(with_reducible refine (JG 8 (by omega) (by omega) _).mono ?_);rintro e w' ⟨rfl,rfl⟩)|(go_at_call 96;(with_reducible refine (JF 8 (by omega) (by omega) _).mono ?_);rintro e w' ⟨rfl,rfl⟩)|(go_at_call 96;(with_reducible refine (JE 8 (by omega) (by omega) _).mono ?_);rintro e w' ⟨rfl,rfl⟩)|(go_at_call 97;(with_reducible refine (Ra.out _).mono ?_);rintro e w' ⟨rfl,rfl⟩)|(go_at_call 97;(with_reducible refine (Rb.out _).mono ?_);rintro e w' ⟨rfl,rfl⟩))
 go_ret
 exact ⟨rfl,rfl⟩
theorem rgood_9 (a b m:Int) (ha:0≤a∧a<8) (hb:0≤b∧b<8) (hm: -2147483648≤m∧m≤2147483647) (w:World):Calls Tryz.prog 71 #[.agg (insc ⟨9,a,b,0,m⟩)] w fun e w'=>e=.returned (.bool true)∧w'=w.alloc (.cells (insc ⟨9,a,b,0,m⟩) 65):=by
 have hx:(w.alloc (.cells (insc ⟨9,a,b,0,m⟩) 65)).heap[w.heap.size]? =some (.cells (insc ⟨9,a,b,0,m⟩) 65 (0,0)):=by simp
 have d1a:decide (0≤a)=true:=by simp;omega
 have d2a:decide (a≤7)=true:=by simp;omega
 have Ra:=Vh (fun w=>rreg a w)
 rw [d1a,d2a] at Ra
 have d1b:decide (0≤b)=true:=by simp;omega
 have d2b:decide (b≤7)=true:=by simp;omega
 have Rb:=Vh (fun w=>rreg b w)
 rw [d1b,d2b] at Rb
 have e1:decide (-2147483648≤m)=true:=by simp;omega
 have e2:decide (m<2147483648)=true:=by simp;omega
 have LA:hasA 9=true:=by decide
 have LB:hasB 9=true:=by decide
 have LC:hasC 9=false:=by decide
 have LI:hasI 9=true:=by decide
 clear ha hb hm
 go_enter Tryz.func71,Tryz.ntmps71
 try dsimp only [List.append]
 go_wp2_with (first |(go_at_call 96;(with_reducible refine (JH 9 (by omega) (by omega) _).mono ?_);rintro e w' ⟨rfl,rfl⟩)|(go_at_call 96;(with_reducible refine (JG 9 (by omega) (by omega) _).mono ?_);rintro e w' ⟨rfl,rfl⟩)|(go_at_call 96;(with_reducible refine (JF 9 (by omega) (by omega) _).mono ?_);rintro e w' ⟨rfl,rfl⟩)|(go_at_call 96;(with_reducible refine (JE 9 (by omega) (by omega) _).mono ?_);rintro e w' ⟨rfl,rfl⟩)|(go_at_call 97;(with_reducible refine (Ra.out _).mono ?_);rintro e w' ⟨rfl,rfl⟩)|(go_at_call 97;(with_reducible refine (Rb.out _).mono ?_);rintro e w' ⟨rfl,rfl⟩))
 go_ret
 exact ⟨rfl,rfl⟩
theorem rgood_10 (a b c:Int) (ha:0≤a∧a<8) (hb:0≤b∧b<8) (hc:0≤c∧c<8) (w:World):Calls Tryz.prog 71 #[.agg (insc ⟨10,a,b,c,0⟩)] w fun e w'=>e=.returned (.bool true)∧w'=w.alloc (.cells (insc ⟨10,a,b,c,0⟩) 65):=by
 have hx:(w.alloc (.cells (insc ⟨10,a,b,c,0⟩) 65)).heap[w.heap.size]? =some (.cells (insc ⟨10,a,b,c,0⟩) 65 (0,0)):=by simp
 have d1a:decide (0≤a)=true:=by simp;omega
 have d2a:decide (a≤7)=true:=by simp;omega
 have Ra:=Vh (fun w=>rreg a w)
 rw [d1a,d2a] at Ra
 have d1b:decide (0≤b)=true:=by simp;omega
 have d2b:decide (b≤7)=true:=by simp;omega
 have Rb:=Vh (fun w=>rreg b w)
 rw [d1b,d2b] at Rb
 have d1c:decide (0≤c)=true:=by simp;omega
 have d2c:decide (c≤7)=true:=by simp;omega
 have Rc:=Vh (fun w=>rreg c w)
 rw [d1c,d2c] at Rc
 have LA:hasA 10=true:=by decide
 have LB:hasB 10=true:=by decide
 have LC:hasC 10=true:=by decide
 have LI:hasI 10=false:=by decide
 clear ha hb hc
 go_enter Tryz.func71,Tryz.ntmps71
 try dsimp only [List.append]
 go_wp2_with (first |(go_at_call 96;(with_reducible refine (JH 10 (by omega) (by omega) _).mono ?_);rintro e w' ⟨rfl,rfl⟩)|(go_at_call 96;(with_reducible refine (JG 10 (by omega) (by omega) _).mono ?_);rintro e w' ⟨rfl,rfl⟩)|(go_at_call 96;(with_reducible refine (JF 10 (by omega) (by omega) _).mono ?_);rintro e w' ⟨rfl,rfl⟩)|(go_at_call 96;(with_reducible refine (JE 10 (by omega) (by omega) _).mono ?_);rintro e w' ⟨rfl,rfl⟩)|(go_at_call 97;(with_reducible refine (Ra.out _).mono ?_);rintro e w' ⟨rfl,rfl⟩)|(go_at_call 97;(with_reducible refine (Rb.out _).mono ?_);rintro e w' ⟨rfl,rfl⟩)|(go_at_call 97;(with_reducible refine (Rc.out _).mono ?_);rintro e w' ⟨rfl,rfl⟩))
 go_ret
 exact ⟨rfl,rfl⟩
theorem rgood_11 (a b c:Int) (ha:0≤a∧a<8) (hb:0≤b∧b<8) (hc:0≤c∧c<8) (w:World):Calls Tryz.prog 71 #[.agg (insc ⟨11,a,b,c,0⟩)] w fun e w'=>e=.returned (.bool true)∧w'=w.alloc (.cells (insc ⟨11,a,b,c,0⟩) 65):=by
 have hx:(w.alloc (.cells (insc ⟨11,a,b,c,0⟩) 65)).heap[w.heap.size]? =some (.cells (insc ⟨11,a,b,c,0⟩) 65 (0,0)):=by simp
 have d1a:decide (0≤a)=true:=by simp;omega
 have d2a:decide (a≤7)=true:=by simp;omega
 have Ra:=Vh (fun w=>rreg a w)
 rw [d1a,d2a] at Ra
 have d1b:decide (0≤b)=true:=by simp;omega
 have d2b:decide (b≤7)=true:=by simp;omega
 have Rb:=Vh (fun w=>rreg b w)
 rw [d1b,d2b] at Rb
 have d1c:decide (0≤c)=true:=by simp;omega
 have d2c:decide (c≤7)=true:=by simp;omega
 have Rc:=Vh (fun w=>rreg c w)
 rw [d1c,d2c] at Rc
 have LA:hasA 11=true:=by decide
 have LB:hasB 11=true:=by decide
 have LC:hasC 11=true:=by decide
 have LI:hasI 11=false:=by decide
 clear ha hb hc
 go_enter Tryz.func71,Tryz.ntmps71
 try dsimp only [List.append]
 go_wp2_with (first |(go_at_call 96;(with_reducible refine (JH 11 (by omega) (by omega) _).mono ?_);rintro e w' ⟨rfl,rfl⟩)|(go_at_call 96;(with_reducible refine (JG 11 (by omega) (by omega) _).mono ?_);rintro e w' ⟨rfl,rfl⟩)|(go_at_call 96;(with_reducible refine (JF 11 (by omega) (by omega) _).mono ?_);rintro e w' ⟨rfl,rfl⟩)|(go_at_call 96;(with_reducible refine (JE 11 (by omega) (by omega) _).mono ?_);rintro e w' ⟨rfl,rfl⟩)|(go_at_call 97;(with_reducible refine (Ra.out _).mono ?_);rintro e w' ⟨rfl,rfl⟩)|(go_at_call 97;(with_reducible refine (Rb.out _).mono ?_);rintro e w' ⟨rfl,rfl⟩)|(go_at_call 97;(with_reducible refine (Rc.out _).mono ?_);rintro e w' ⟨rfl,rfl⟩))
 go_ret
 exact ⟨rfl,rfl⟩
theorem rgood_12 (b m:Int) (hb:0≤b∧b<8) (hm: -2147483648≤m∧m≤2147483647) (w:World):Calls Tryz.prog 71 #[.agg (insc ⟨12,0,b,0,m⟩)] w fun e w'=>e=.returned (.bool true)∧w'=w.alloc (.cells (insc ⟨12,0,b,0,m⟩) 65):=by
 have hx:(w.alloc (.cells (insc ⟨12,0,b,0,m⟩) 65)).heap[w.heap.size]? =some (.cells (insc ⟨12,0,b,0,m⟩) 65 (0,0)):=by simp
 have d1b:decide (0≤b)=true:=by simp;omega
 have d2b:decide (b≤7)=true:=by simp;omega
 have Rb:=Vh (fun w=>rreg b w)
 rw [d1b,d2b] at Rb
 have e1:decide (-2147483648≤m)=true:=by simp;omega
 have e2:decide (m<2147483648)=true:=by simp;omega
 have LA:hasA 12=false:=by decide
 have LB:hasB 12=true:=by decide
 have LC:hasC 12=false:=by decide
 have LI:hasI 12=true:=by decide
 clear hb hm
 go_enter Tryz.func71,Tryz.ntmps71
 try dsimp only [List.append]
 go_wp2_with (first |(go_at_call 96;(with_reducible refine (JH 12 (by omega) (by omega) _).mono ?_);rintro e w' ⟨rfl,rfl⟩)|(go_at_call 96;(with_reducible refine (JG 12 (by omega) (by omega) _).mono ?_);rintro e w' ⟨rfl,rfl⟩)|(go_at_call 96;(with_reducible refine (JF 12 (by omega) (by omega) _).mono ?_);rintro e w' ⟨rfl,rfl⟩)|(go_at_call 96;(with_reducible refine (JE 12 (by omega) (by omega) _).mono ?_);rintro e w' ⟨rfl,rfl⟩)|(go_at_call 97;(with_reducible refine (Rb.out _).mono ?_);rintro e w' ⟨rfl,rfl⟩))
 go_ret
 exact ⟨rfl,rfl⟩
theorem rgood_13 (b m:Int) (hb:0≤b∧b<8) (hm: -2147483648≤m∧m≤2147483647) (w:World):Calls Tryz.prog 71 #[.agg (insc ⟨13,0,b,0,m⟩)] w fun e w'=>e=.returned (.bool true)∧w'=w.alloc (.cells (insc ⟨13,0,b,0,m⟩) 65):=by
 have hx:(w.alloc (.cells (insc ⟨13,0,b,0,m⟩) 65)).heap[w.heap.size]? =some (.cells (insc ⟨13,0,b,0,m⟩) 65 (0,0)):=by simp
 have d1b:decide (0≤b)=true:=by simp;omega
 have d2b:decide (b≤7)=true:=by simp;omega
 have Rb:=Vh (fun w=>rreg b w)
 rw [d1b,d2b] at Rb
 have e1:decide (-2147483648≤m)=true:=by simp;omega
 have e2:decide (m<2147483648)=true:=by simp;omega
 have LA:hasA 13=false:=by decide
 have LB:hasB 13=true:=by decide
 have LC:hasC 13=false:=by decide
 have LI:hasI 13=true:=by decide
 clear hb hm
 go_enter Tryz.func71,Tryz.ntmps71
 try dsimp only [List.append]
 go_wp2_with (first |(go_at_call 96;(with_reducible refine (JH 13 (by omega) (by omega) _).mono ?_);rintro e w' ⟨rfl,rfl⟩)|(go_at_call 96;(with_reducible refine (JG 13 (by omega) (by omega) _).mono ?_);rintro e w' ⟨rfl,rfl⟩)|(go_at_call 96;(with_reducible refine (JF 13 (by omega) (by omega) _).mono ?_);rintro e w' ⟨rfl,rfl⟩)|(go_at_call 96;(with_reducible refine (JE 13 (by omega) (by omega) _).mono ?_);rintro e w' ⟨rfl,rfl⟩)|(go_at_call 97;(with_reducible refine (Rb.out _).mono ?_);rintro e w' ⟨rfl,rfl⟩))
 go_ret
 exact ⟨rfl,rfl⟩
theorem rgood_14 (b m:Int) (hb:0≤b∧b<8) (hm: -2147483648≤m∧m≤2147483647) (w:World):Calls Tryz.prog 71 #[.agg (insc ⟨14,0,b,0,m⟩)] w fun e w'=>e=.returned (.bool true)∧w'=w.alloc (.cells (insc ⟨14,0,b,0,m⟩) 65):=by
 have hx:(w.alloc (.cells (insc ⟨14,0,b,0,m⟩) 65)).heap[w.heap.size]? =some (.cells (insc ⟨14,0,b,0,m⟩) 65 (0,0)):=by simp
 have d1b:decide (0≤b)=true:=by simp;omega
 have d2b:decide (b≤7)=true:=by simp;omega
 have Rb:=Vh (fun w=>rreg b w)
 rw [d1b,d2b] at Rb
 have e1:decide (-2147483648≤m)=true:=by simp;omega
 have e2:decide (m<2147483648)=true:=by simp;omega
 have LA:hasA 14=false:=by decide
 have LB:hasB 14=true:=by decide
 have LC:hasC 14=false:=by decide
 have LI:hasI 14=true:=by decide
 clear hb hm
 go_enter Tryz.func71,Tryz.ntmps71
 try dsimp only [List.append]
 go_wp2_with (first |(go_at_call 96;(with_reducible refine (JH 14 (by omega) (by omega) _).mono ?_);rintro e w' ⟨rfl,rfl⟩)|(go_at_call 96;(with_reducible refine (JG 14 (by omega) (by omega) _).mono ?_);rintro e w' ⟨rfl,rfl⟩)|(go_at_call 96;(with_reducible refine (JF 14 (by omega) (by omega) _).mono ?_);rintro e w' ⟨rfl,rfl⟩)|(go_at_call 96;(with_reducible refine (JE 14 (by omega) (by omega) _).mono ?_);rintro e w' ⟨rfl,rfl⟩)|(go_at_call 97;(with_reducible refine (Rb.out _).mono ?_);rintro e w' ⟨rfl,rfl⟩))
 go_ret
 exact ⟨rfl,rfl⟩
theorem rgood_15 (w:World):Calls Tryz.prog 71 #[.agg (insc ⟨15,0,0,0,0⟩)] w fun e w'=>e=.returned (.bool true)∧w'=w.alloc (.cells (insc ⟨15,0,0,0,0⟩) 65):=by
 have hx:(w.alloc (.cells (insc ⟨15,0,0,0,0⟩) 65)).heap[w.heap.size]? =some (.cells (insc ⟨15,0,0,0,0⟩) 65 (0,0)):=by simp
 have LA:hasA 15=false:=by decide
 have LB:hasB 15=false:=by decide
 have LC:hasC 15=false:=by decide
 have LI:hasI 15=false:=by decide
 go_enter Tryz.func71,Tryz.ntmps71
 try dsimp only [List.append]
 go_wp2_with (first |(go_at_call 96;(with_reducible refine (JH 15 (by omega) (by omega) _).mono ?_);rintro e w' ⟨rfl,rfl⟩)|(go_at_call 96;(with_reducible refine (JG 15 (by omega) (by omega) _).mono ?_);rintro e w' ⟨rfl,rfl⟩)|(go_at_call 96;(with_reducible refine (JF 15 (by omega) (by omega) _).mono ?_);rintro e w' ⟨rfl,rfl⟩)|(go_at_call 96;(with_reducible refine (JE 15 (by omega) (by omega) _).mono ?_);rintro e w' ⟨rfl,rfl⟩))
 go_ret
 exact ⟨rfl,rfl⟩
theorem rgood_16 (w:World):Calls Tryz.prog 71 #[.agg (insc ⟨16,0,0,0,0⟩)] w fun e w'=>e=.returned (.bool true)∧w'=w.alloc (.cells (insc ⟨16,0,0,0,0⟩) 65):=by
 have hx:(w.alloc (.cells (insc ⟨16,0,0,0,0⟩) 65)).heap[w.heap.size]? =some (.cells (insc ⟨16,0,0,0,0⟩) 65 (0,0)):=by simp
 have LA:hasA 16=false:=by decide
 have LB:hasB 16=false:=by decide
 have LC:hasC 16=false:=by decide
 have LI:hasI 16=false:=by decide
 go_enter Tryz.func71,Tryz.ntmps71
 try dsimp only [List.append]
 go_wp2_with (first |(go_at_call 96;(with_reducible refine (JH 16 (by omega) (by omega) _).mono ?_);rintro e w' ⟨rfl,rfl⟩)|(go_at_call 96;(with_reducible refine (JG 16 (by omega) (by omega) _).mono ?_);rintro e w' ⟨rfl,rfl⟩)|(go_at_call 96;(with_reducible refine (JF 16 (by omega) (by omega) _).mono ?_);rintro e w' ⟨rfl,rfl⟩)|(go_at_call 96;(with_reducible refine (JE 16 (by omega) (by omega) _).mono ?_);rintro e w' ⟨rfl,rfl⟩))
 go_ret
 exact ⟨rfl,rfl⟩
theorem rgood_17 (m:Int) (hm:0≤m∧m≤2147483647) (w:World):Calls Tryz.prog 71 #[.agg (insc ⟨17,0,0,0,m⟩)] w fun e w'=>e=.returned (.bool true)∧w'=w.alloc (.cells (insc ⟨17,0,0,0,m⟩) 65):=by
 have hx:(w.alloc (.cells (insc ⟨17,0,0,0,m⟩) 65)).heap[w.heap.size]? =some (.cells (insc ⟨17,0,0,0,m⟩) 65 (0,0)):=by simp
 have e1:decide (-2147483648≤m)=true:=by simp;omega
 have e2:decide (m<2147483648)=true:=by simp;omega
 have e3:decide (0≤m)=true:=by simp;omega
 have LA:hasA 17=false:=by decide
 have LB:hasB 17=false:=by decide
 have LC:hasC 17=false:=by decide
 have LI:hasI 17=true:=by decide
 clear hm
 go_enter Tryz.func71,Tryz.ntmps71
 try dsimp only [List.append]
 go_wp2_with (first |(go_at_call 96;(with_reducible refine (JH 17 (by omega) (by omega) _).mono ?_);rintro e w' ⟨rfl,rfl⟩)|(go_at_call 96;(with_reducible refine (JG 17 (by omega) (by omega) _).mono ?_);rintro e w' ⟨rfl,rfl⟩)|(go_at_call 96;(with_reducible refine (JF 17 (by omega) (by omega) _).mono ?_);rintro e w' ⟨rfl,rfl⟩)|(go_at_call 96;(with_reducible refine (JE 17 (by omega) (by omega) _).mono ?_);rintro e w' ⟨rfl,rfl⟩))
 go_ret
 exact ⟨rfl,rfl⟩
theorem rgood_18 (a b m:Int) (ha:0≤a∧a<8) (hb:0≤b∧b<8) (hm:0≤m∧m≤2147483647) (w:World):Calls Tryz.prog 71 #[.agg (insc ⟨18,a,b,0,m⟩)] w fun e w'=>e=.returned (.bool true)∧w'=w.alloc (.cells (insc ⟨18,a,b,0,m⟩) 65):=by
 have hx:(w.alloc (.cells (insc ⟨18,a,b,0,m⟩) 65)).heap[w.heap.size]? =some (.cells (insc ⟨18,a,b,0,m⟩) 65 (0,0)):=by simp
 have d1a:decide (0≤a)=true:=by simp;omega
 have d2a:decide (a≤7)=true:=by simp;omega
 have Ra:=Vh (fun w=>rreg a w)
 rw [d1a,d2a] at Ra
 have d1b:decide (0≤b)=true:=by simp;omega
 have d2b:decide (b≤7)=true:=by simp;omega
 have Rb:=Vh (fun w=>rreg b w)
 rw [d1b,d2b] at Rb
 have e1:decide (-2147483648≤m)=true:=by simp;omega
 have e2:decide (m<2147483648)=true:=by simp;omega
 have e3:decide (0≤m)=true:=by simp;omega
 have LA:hasA 18=true:=by decide
 have LB:hasB 18=true:=by decide
 have LC:hasC 18=false:=by decide
 have LI:hasI 18=true:=by decide
 clear ha hb hm
 go_enter Tryz.func71,Tryz.ntmps71
 try dsimp only [List.append]
 go_wp2_with (first |(go_at_call 96;(with_reducible refine (JH 18 (by omega) (by omega) _).mono ?_);rintro e w' ⟨rfl,rfl⟩)|(go_at_call 96;(with_reducible refine (JG 18 (by omega) (by omega) _).mono ?_);rintro e w' ⟨rfl,rfl⟩)|(go_at_call 96;(with_reducible refine (JF 18 (by omega) (by omega) _).mono ?_);rintro e w' ⟨rfl,rfl⟩)|(go_at_call 96;(with_reducible refine (JE 18 (by omega) (by omega) _).mono ?_);rintro e w' ⟨rfl,rfl⟩)|(go_at_call 97;(with_reducible refine (Ra.out _).mono ?_);rintro e w' ⟨rfl,rfl⟩)|(go_at_call 97;(with_reducible refine (Rb.out _).mono ?_);rintro e w' ⟨rfl,rfl⟩))
 go_ret
 exact ⟨rfl,rfl⟩
theorem rgood_19 (a b m:Int) (ha:0≤a∧a<8) (hb:0≤b∧b<8) (hm:0≤m∧m≤2147483647) (w:World):Calls Tryz.prog 71 #[.agg (insc ⟨19,a,b,0,m⟩)] w fun e w'=>e=.returned (.bool true)∧w'=w.alloc (.cells (insc ⟨19,a,b,0,m⟩) 65):=by
 have hx:(w.alloc (.cells (insc ⟨19,a,b,0,m⟩) 65)).heap[w.heap.size]? =some (.cells (insc ⟨19,a,b,0,m⟩) 65 (0,0)):=by simp
 have d1a:decide (0≤a)=true:=by simp;omega
 have d2a:decide (a≤7)=true:=by simp;omega
 have Ra:=Vh (fun w=>rreg a w)
 rw [d1a,d2a] at Ra
 have d1b:decide (0≤b)=true:=by simp;omega
 have d2b:decide (b≤7)=true:=by simp;omega
 have Rb:=Vh (fun w=>rreg b w)
 rw [d1b,d2b] at Rb
 have e1:decide (-2147483648≤m)=true:=by simp;omega
 have e2:decide (m<2147483648)=true:=by simp;omega
 have e3:decide (0≤m)=true:=by simp;omega
 have LA:hasA 19=true:=by decide
 have LB:hasB 19=true:=by decide
 have LC:hasC 19=false:=by decide
 have LI:hasI 19=true:=by decide
 clear ha hb hm
 go_enter Tryz.func71,Tryz.ntmps71
 try dsimp only [List.append]
 go_wp2_with (first |(go_at_call 96;(with_reducible refine (JH 19 (by omega) (by omega) _).mono ?_);rintro e w' ⟨rfl,rfl⟩)|(go_at_call 96;(with_reducible refine (JG 19 (by omega) (by omega) _).mono ?_);rintro e w' ⟨rfl,rfl⟩)|(go_at_call 96;(with_reducible refine (JF 19 (by omega) (by omega) _).mono ?_);rintro e w' ⟨rfl,rfl⟩)|(go_at_call 96;(with_reducible refine (JE 19 (by omega) (by omega) _).mono ?_);rintro e w' ⟨rfl,rfl⟩)|(go_at_call 97;(with_reducible refine (Ra.out _).mono ?_);rintro e w' ⟨rfl,rfl⟩)|(go_at_call 97;(with_reducible refine (Rb.out _).mono ?_);rintro e w' ⟨rfl,rfl⟩))
 go_ret
 exact ⟨rfl,rfl⟩
theorem rgood_20 (a b m:Int) (ha:0≤a∧a<8) (hb:0≤b∧b<8) (hm:0≤m∧m≤2147483647) (w:World):Calls Tryz.prog 71 #[.agg (insc ⟨20,a,b,0,m⟩)] w fun e w'=>e=.returned (.bool true)∧w'=w.alloc (.cells (insc ⟨20,a,b,0,m⟩) 65):=by
 have hx:(w.alloc (.cells (insc ⟨20,a,b,0,m⟩) 65)).heap[w.heap.size]? =some (.cells (insc ⟨20,a,b,0,m⟩) 65 (0,0)):=by simp
 have d1a:decide (0≤a)=true:=by simp;omega
 have d2a:decide (a≤7)=true:=by simp;omega
 have Ra:=Vh (fun w=>rreg a w)
 rw [d1a,d2a] at Ra
 have d1b:decide (0≤b)=true:=by simp;omega
 have d2b:decide (b≤7)=true:=by simp;omega
 have Rb:=Vh (fun w=>rreg b w)
 rw [d1b,d2b] at Rb
 have e1:decide (-2147483648≤m)=true:=by simp;omega
 have e2:decide (m<2147483648)=true:=by simp;omega
 have e3:decide (0≤m)=true:=by simp;omega
 have LA:hasA 20=true:=by decide
 have LB:hasB 20=true:=by decide
 have LC:hasC 20=false:=by decide
 have LI:hasI 20=true:=by decide
 clear ha hb hm
 go_enter Tryz.func71,Tryz.ntmps71
 try dsimp only [List.append]
 go_wp2_with (first |(go_at_call 96;(with_reducible refine (JH 20 (by omega) (by omega) _).mono ?_);rintro e w' ⟨rfl,rfl⟩)|(go_at_call 96;(with_reducible refine (JG 20 (by omega) (by omega) _).mono ?_);rintro e w' ⟨rfl,rfl⟩)|(go_at_call 96;(with_reducible refine (JF 20 (by omega) (by omega) _).mono ?_);rintro e w' ⟨rfl,rfl⟩)|(go_at_call 96;(with_reducible refine (JE 20 (by omega) (by omega) _).mono ?_);rintro e w' ⟨rfl,rfl⟩)|(go_at_call 97;(with_reducible refine (Ra.out _).mono ?_);rintro e w' ⟨rfl,rfl⟩)|(go_at_call 97;(with_reducible refine (Rb.out _).mono ?_);rintro e w' ⟨rfl,rfl⟩))
 go_ret
 exact ⟨rfl,rfl⟩
theorem rgood_21 (a:Int) (ha:0≤a∧a<8) (w:World):Calls Tryz.prog 71 #[.agg (insc ⟨21,a,0,0,0⟩)] w fun e w'=>e=.returned (.bool true)∧w'=w.alloc (.cells (insc ⟨21,a,0,0,0⟩) 65):=by
 have hx:(w.alloc (.cells (insc ⟨21,a,0,0,0⟩) 65)).heap[w.heap.size]? =some (.cells (insc ⟨21,a,0,0,0⟩) 65 (0,0)):=by simp
 have d1a:decide (0≤a)=true:=by simp;omega
 have d2a:decide (a≤7)=true:=by simp;omega
 have Ra:=Vh (fun w=>rreg a w)
 rw [d1a,d2a] at Ra
 have LA:hasA 21=true:=by decide
 have LB:hasB 21=false:=by decide
 have LC:hasC 21=false:=by decide
 have LI:hasI 21=false:=by decide
 clear ha
 go_enter Tryz.func71,Tryz.ntmps71
 try dsimp only [List.append]
 go_wp2_with (first |(go_at_call 96;(with_reducible refine (JH 21 (by omega) (by omega) _).mono ?_);rintro e w' ⟨rfl,rfl⟩)|(go_at_call 96;(with_reducible refine (JG 21 (by omega) (by omega) _).mono ?_);rintro e w' ⟨rfl,rfl⟩)|(go_at_call 96;(with_reducible refine (JF 21 (by omega) (by omega) _).mono ?_);rintro e w' ⟨rfl,rfl⟩)|(go_at_call 96;(with_reducible refine (JE 21 (by omega) (by omega) _).mono ?_);rintro e w' ⟨rfl,rfl⟩)|(go_at_call 97;(with_reducible refine (Ra.out _).mono ?_);rintro e w' ⟨rfl,rfl⟩))
 go_ret
 exact ⟨rfl,rfl⟩
theorem rgood_22 (w:World):Calls Tryz.prog 71 #[.agg (insc ⟨22,0,0,0,0⟩)] w fun e w'=>e=.returned (.bool true)∧w'=w.alloc (.cells (insc ⟨22,0,0,0,0⟩) 65):=by
 have hx:(w.alloc (.cells (insc ⟨22,0,0,0,0⟩) 65)).heap[w.heap.size]? =some (.cells (insc ⟨22,0,0,0,0⟩) 65 (0,0)):=by simp
 have LA:hasA 22=false:=by decide
 have LB:hasB 22=false:=by decide
 have LC:hasC 22=false:=by decide
 have LI:hasI 22=false:=by decide
 go_enter Tryz.func71,Tryz.ntmps71
 try dsimp only [List.append]
 go_wp2_with (first |(go_at_call 96;(with_reducible refine (JH 22 (by omega) (by omega) _).mono ?_);rintro e w' ⟨rfl,rfl⟩)|(go_at_call 96;(with_reducible refine (JG 22 (by omega) (by omega) _).mono ?_);rintro e w' ⟨rfl,rfl⟩)|(go_at_call 96;(with_reducible refine (JF 22 (by omega) (by omega) _).mono ?_);rintro e w' ⟨rfl,rfl⟩)|(go_at_call 96;(with_reducible refine (JE 22 (by omega) (by omega) _).mono ?_);rintro e w' ⟨rfl,rfl⟩))
 go_ret
 exact ⟨rfl,rfl⟩
end
section
set_option maxHeartbeats 2000000 in
theorem wdrgood_0 (c0 c1 c2 c3 c4 c5 c6:Int) (w:World) (h:¬(1≤c0∧c0≤8)):Calls Tryz.prog 7 #[.agg #[.int .i64 c0,.int .i64 c1,.int .i64 c2,.int .i64 c3,.int .i64 c4,.int .i64 c5,.int .i64 c6]] w fun e w'=>e=.returned (.bool false)∧w'=w.alloc (.cells #[.int .i64 c0,.int .i64 c1,.int .i64 c2,.int .i64 c3,.int .i64 c4,.int .i64 c5,.int .i64 c6] 23):=by
 by_cases h7:1≤c0
 ·have h8:decide (c0≤8)=false:=by simp;omega
  clear h
  exact Tz18
 ·have h8:decide (1≤c0)=false:=by simp;omega
  clear h h7
  exact Tz18
set_option maxHeartbeats 2000000 in
theorem wdrgood_1 (c0 c1 c2 c3 c4 c5 c6:Int) (w:World) (p0:1≤c0) (q0:c0≤8) (h:¬(2≤c1∧c1≤64)):Calls Tryz.prog 7 #[.agg #[.int .i64 c0,.int .i64 c1,.int .i64 c2,.int .i64 c3,.int .i64 c4,.int .i64 c5,.int .i64 c6]] w fun e w'=>e=.returned (.bool false)∧w'=w.alloc (.cells #[.int .i64 c0,.int .i64 c1,.int .i64 c2,.int .i64 c3,.int .i64 c4,.int .i64 c5,.int .i64 c6] 23):=by
 by_cases h7:2≤c1
 ·have h8:decide (c1≤64)=false:=by simp;omega
  clear h
  exact Tz18
 ·have h8:decide (2≤c1)=false:=by simp;omega
  clear h h7
  exact Tz18
set_option maxHeartbeats 2000000 in
theorem wdrgood_2 (c0 c1 c2 c3 c4 c5 c6:Int) (w:World) (p0:1≤c0) (q0:c0≤8) (p1:2≤c1) (q1:c1≤64) (h:¬(1≤c2∧c2≤c1-1)):Calls Tryz.prog 7 #[.agg #[.int .i64 c0,.int .i64 c1,.int .i64 c2,.int .i64 c3,.int .i64 c4,.int .i64 c5,.int .i64 c6]] w fun e w'=>e=.returned (.bool false)∧w'=w.alloc (.cells #[.int .i64 c0,.int .i64 c1,.int .i64 c2,.int .i64 c3,.int .i64 c4,.int .i64 c5,.int .i64 c6] 23):=by
 by_cases h7:1≤c2
 ·have h8:decide (c2<c1)=false:=by simp;omega
  clear h
  exact Tz18
 ·have h8:decide (1≤c2)=false:=by simp;omega
  clear h h7
  exact Tz18
set_option maxHeartbeats 2000000 in
theorem wdrgood_3 (c0 c1 c2 c3 c4 c5 c6:Int) (w:World) (p0:1≤c0) (q0:c0≤8) (p1:2≤c1) (q1:c1≤64) (p2:1≤c2) (q2:c2≤c1-1) (h:¬(c3=1∨c3=2∨c3=4∨c3=8)):Calls Tryz.prog 7 #[.agg #[.int .i64 c0,.int .i64 c1,.int .i64 c2,.int .i64 c3,.int .i64 c4,.int .i64 c5,.int .i64 c6]] w fun e w'=>e=.returned (.bool false)∧w'=w.alloc (.cells #[.int .i64 c0,.int .i64 c1,.int .i64 c2,.int .i64 c3,.int .i64 c4,.int .i64 c5,.int .i64 c6] 23):=by
 have q2':c2<c1:=by omega
 clear q2
 have e1:(c3==1)=false:=by simp;omega
 have e2:(c3==2)=false:=by simp;omega
 have e4:(c3==4)=false:=by simp;omega
 have e8:(c3==8)=false:=by simp;omega
 clear h
 exact Tz18
set_option maxHeartbeats 2000000 in
theorem wdrgood_4 (c0 c1 c2 c3 c4 c5 c6:Int) (w:World) (p0:1≤c0) (q0:c0≤8) (p1:2≤c1) (q1:c1≤64) (p2:1≤c2) (q2:c2≤c1-1) (s:c3=1∨c3=2∨c3=4∨c3=8) (h:¬(1≤c4∧c4≤8)):Calls Tryz.prog 7 #[.agg #[.int .i64 c0,.int .i64 c1,.int .i64 c2,.int .i64 c3,.int .i64 c4,.int .i64 c5,.int .i64 c6]] w fun e w'=>e=.returned (.bool false)∧w'=w.alloc (.cells #[.int .i64 c0,.int .i64 c1,.int .i64 c2,.int .i64 c3,.int .i64 c4,.int .i64 c5,.int .i64 c6] 23):=by
 have q2':c2<c1:=by omega
 clear q2
 obtain rfl|rfl|rfl|rfl:=s
 all_goals
  by_cases h7:1≤c4
  ·have h8:decide (c4≤8)=false:=by simp;omega
   clear h
   exact Tz18
  ·have h8:decide (1≤c4)=false:=by simp;omega
   clear h h7
   exact Tz18
set_option maxHeartbeats 2000000 in
theorem wdrgood_5 (c0 c1 c2 c3 c4 c5 c6:Int) (w:World) (p0:1≤c0) (q0:c0≤8) (p1:2≤c1) (q1:c1≤64) (p2:1≤c2) (q2:c2≤c1-1) (s:c3=1∨c3=2∨c3=4∨c3=8) (p4:1≤c4) (q4:c4≤8) (h:¬(1≤c5∧c5≤16)):Calls Tryz.prog 7 #[.agg #[.int .i64 c0,.int .i64 c1,.int .i64 c2,.int .i64 c3,.int .i64 c4,.int .i64 c5,.int .i64 c6]] w fun e w'=>e=.returned (.bool false)∧w'=w.alloc (.cells #[.int .i64 c0,.int .i64 c1,.int .i64 c2,.int .i64 c3,.int .i64 c4,.int .i64 c5,.int .i64 c6] 23):=by
 have q2':c2<c1:=by omega
 clear q2
 obtain rfl|rfl|rfl|rfl:=s
 all_goals
  by_cases h7:1≤c5
  ·have h8:decide (c5≤16)=false:=by simp;omega
   clear h
   exact Tz18
  ·have h8:decide (1≤c5)=false:=by simp;omega
   clear h h7
   exact Tz18
set_option maxHeartbeats 2000000 in
theorem wdrgood_6 (c0 c1 c2 c3 c4 c5 c6:Int) (w:World) (p0:1≤c0) (q0:c0≤8) (p1:2≤c1) (q1:c1≤64) (p2:1≤c2) (q2:c2≤c1-1) (s:c3=1∨c3=2∨c3=4∨c3=8) (p4:1≤c4) (q4:c4≤8) (p5:1≤c5) (q5:c5≤16) (h:¬(1≤c6∧c6≤16)):Calls Tryz.prog 7 #[.agg #[.int .i64 c0,.int .i64 c1,.int .i64 c2,.int .i64 c3,.int .i64 c4,.int .i64 c5,.int .i64 c6]] w fun e w'=>e=.returned (.bool false)∧w'=w.alloc (.cells #[.int .i64 c0,.int .i64 c1,.int .i64 c2,.int .i64 c3,.int .i64 c4,.int .i64 c5,.int .i64 c6] 23):=by
 have q2':c2<c1:=by omega
 clear q2
 obtain rfl|rfl|rfl|rfl:=s
 all_goals
  by_cases h7:1≤c6
  ·have h8:decide (c6≤16)=false:=by simp;omega
   clear h
   exact Tz18
  ·have h8:decide (1≤c6)=false:=by simp;omega
   clear h h7
   exact Tz18
set_option maxHeartbeats 2000000 in
theorem wdrgood_7 (c0 c1 c2 c3 c4 c5 c6:Int) (w:World) (p0:1≤c0) (q0:c0≤8) (p1:2≤c1) (q1:c1≤64) (p2:1≤c2) (q2:c2≤c1-1) (s:c3=1∨c3=2∨c3=4∨c3=8) (p4:1≤c4) (q4:c4≤8) (p5:1≤c5) (q5:c5≤16) (p6:1≤c6) (q6:c6≤16):Calls Tryz.prog 7 #[.agg #[.int .i64 c0,.int .i64 c1,.int .i64 c2,.int .i64 c3,.int .i64 c4,.int .i64 c5,.int .i64 c6]] w fun e w'=>e=.returned (.bool true)∧w'=w.alloc (.cells #[.int .i64 c0,.int .i64 c1,.int .i64 c2,.int .i64 c3,.int .i64 c4,.int .i64 c5,.int .i64 c6] 23):=by
 have q2':c2<c1:=by omega
 clear q2
 obtain rfl|rfl|rfl|rfl:=s
 all_goals
  exact Tz18
set_option maxHeartbeats 2000000 in
theorem Qex (c0 c1 c2 c3 c4 c5 c6:Int) (w:World):Calls Tryz.prog 7 #[.agg #[.int .i64 c0,.int .i64 c1,.int .i64 c2,.int .i64 c3,.int .i64 c4,.int .i64 c5,.int .i64 c6]] w fun e w'=>e=.returned (.bool (YU c0 c1 c2 c3 c4 c5 c6))∧w'=w.alloc (.cells #[.int .i64 c0,.int .i64 c1,.int .i64 c2,.int .i64 c3,.int .i64 c4,.int .i64 c5,.int .i64 c6] 23):=by
 by_cases h0:1≤c0∧c0≤8
 rotate_left
 ·have e:YU c0 c1 c2 c3 c4 c5 c6=false:=by unfold YU;simp only [decide_eq_false_iff_not];omega
  rw [e];exact wdrgood_0 c0 c1 c2 c3 c4 c5 c6 w h0
 by_cases h1:2≤c1∧c1≤64
 rotate_left
 ·have e:YU c0 c1 c2 c3 c4 c5 c6=false:=by unfold YU;simp only [decide_eq_false_iff_not];omega
  rw [e];exact wdrgood_1 c0 c1 c2 c3 c4 c5 c6 w h0.1 h0.2 h1
 by_cases h2:1≤c2∧c2≤c1- 1
 rotate_left
 ·have e:YU c0 c1 c2 c3 c4 c5 c6=false:=by unfold YU;simp only [decide_eq_false_iff_not];omega
  rw [e];exact wdrgood_2 c0 c1 c2 c3 c4 c5 c6 w h0.1 h0.2 h1.1 h1.2 h2
 by_cases h3:c3=1∨c3=2∨c3=4∨c3=8
 rotate_left
 ·have e:YU c0 c1 c2 c3 c4 c5 c6=false:=by unfold YU;simp only [decide_eq_false_iff_not];omega
  rw [e];exact wdrgood_3 c0 c1 c2 c3 c4 c5 c6 w h0.1 h0.2 h1.1 h1.2 h2.1 h2.2 h3
 by_cases h4:1≤c4∧c4≤8
 rotate_left
 ·have e:YU c0 c1 c2 c3 c4 c5 c6=false:=by unfold YU;simp only [decide_eq_false_iff_not];omega
  rw [e];exact wdrgood_4 c0 c1 c2 c3 c4 c5 c6 w h0.1 h0.2 h1.1 h1.2 h2.1 h2.2 h3 h4
 by_cases h5:1≤c5∧c5≤16
 rotate_left
 ·have e:YU c0 c1 c2 c3 c4 c5 c6=false:=by unfold YU;simp only [decide_eq_false_iff_not];omega
  rw [e];exact wdrgood_5 c0 c1 c2 c3 c4 c5 c6 w h0.1 h0.2 h1.1 h1.2 h2.1 h2.2 h3 h4.1 h4.2 h5
 by_cases h6:1≤c6∧c6≤16
 rotate_left
 ·have e:YU c0 c1 c2 c3 c4 c5 c6=false:=by unfold YU;simp only [decide_eq_false_iff_not];omega
  rw [e];exact wdrgood_6 c0 c1 c2 c3 c4 c5 c6 w h0.1 h0.2 h1.1 h1.2 h2.1 h2.2 h3 h4.1 h4.2 h5.1 h5.2 h6
 have e:YU c0 c1 c2 c3 c4 c5 c6=true:=by unfold YU;simp only [decide_eq_true_eq];omega
 rw [e];exact wdrgood_7 c0 c1 c2 c3 c4 c5 c6 w h0.1 h0.2 h1.1 h1.2 h2.1 h2.2 h3 h4.1 h4.2 h5.1 h5.2 h6.1 h6.2
end
section
set_option maxHeartbeats 1000000
attribute [local go_sem ↓] Qv QF Qx QP QG Qs Zg Q7 ZH Zt Qk Qh heap_alloc Ql heap_setCell Qc XG XP XO Zi ZP Zu Xk ZQ Xq Xp Xy Xx
attribute [local go_sem] Qb Qa Qe Qi Qd Qg Qf Qt Zk Zf ZE QB Qw QN QL QM Q6 QJ QA Qr QD QX QI Qq QC Qp Qj Qo Qn Qm Zj Zv lit8 QV Xc ZG ZL ZV Zn ZM Xj ZN QH ZO Zx Zy QZ QY Zb XB
attribute [local simp ↓] Qk Qh heap_alloc Ql heap_setCell Qc
attribute [local simp] Qb Qa Qe Qi Qd Qg Qf Qt Qr Qj Qo Qn Qm QV QH QZ QY Zb QD
attribute [local go_sem ↓] Qa3 Qa4 Qa2 Qa1 Qa6 Qa5 Qa0 Qbg
attribute [local go_sem] Y9 Qax Y8 XQ XT Zh Jo Yf Qbh Z9 Zp Zo Zm Zr Zq Zl Zd Zc ZD ZA Jj Yc
attribute [local simp] Zh ZA Zp Zo Zm Zr Zq Zl Zd Zc ZD
attribute [local go_sem ↓] Jl Yb Jk Ya Yg
attribute [local go_sem] Jh Jg Ye Ji QQ QU YH
attribute [local simp] Yg QQ QU QD Z9
attribute [local go_sem ↓] YL Y0 Y1 J5
attribute [local simp] YL
def mstZ:MStp:=⟨0,0,0,0,0⟩
theorem mst_z0:(#[.int .i64 0,.int .i64 0,.int .i64 0,.int .i64 0,.int .u64 0]:Array Value)=mstc mstZ:=rfl
theorem cg_co0 (c:Cg):c.cells[0]? =some (.int .i64 c.co):=rfl
attribute [local go_sem ↓] mst_z0 mstc_0 mstc_1 mstc_2 mstc_3 mstc_4 Qdn Qiz Qix Qiy cg_co0
attribute [local simp] mst_z0
attribute [local go_sem] Qdi Qd2 Qd1
theorem Tabs.keep0 {w w':World} (h:Tabs w) (hc:Chg [] w w'):Tabs w':=⟨h.1.keep hc (by simp),h.2.keep hc (by simp)⟩
theorem cg_of {c0 c1 c2 c3 c4 c5 c6:Int} (h:YU c0 c1 c2 c3 c4 c5 c6=true):∃c:Cg,c.Ok∧c0=(c.co:Int)∧c1=(c.li:Int)∧c2=(c.vo:Int)∧c3=(c.se:Int)∧c4=(c.wa:Int)∧c5=(c.qu:Int)∧c6=(c.st:Int):=by
 unfold YU at h
 have h:=of_decide_eq_true h
 refine ⟨⟨c0.toNat,c1.toNat,c2.toNat,c3.toNat,c4.toNat,c5.toNat,c6.toNat⟩,⟨?_,?_,?_,?_,?_,?_,?_,?_,?_,?_,?_⟩,?_,?_,?_,?_,?_,?_,?_⟩
 all_goals dsimp only
 all_goals first |omega|(unfold Qb1;omega)
theorem mgood_false (c0 c1 c2 c3 c4 c5 c6:Int) (w:World) (h:YU c0 c1 c2 c3 c4 c5 c6=false):Calls Tryz.prog 7 #[.agg #[.int .i64 c0,.int .i64 c1,.int .i64 c2,.int .i64 c3,.int .i64 c4,.int .i64 c5,.int .i64 c6]] w fun e w'=>e=.returned (.bool false)∧Chg [] w w':=by
 refine (Qex c0 c1 c2 c3 c4 c5 c6 w).mono ?_
 rintro e w' ⟨rfl,rfl⟩
 exact ⟨by rw [h],(Chg.refl [] w).alloc _⟩
theorem mgood_true (c:Cg) (hc:c.Ok) (w:World):Calls Tryz.prog 7 #[.agg c.cells] w fun e w'=>e=.returned (.bool true)∧Chg [] w w':=by
 refine (Qex c.co c.li c.vo c.se c.wa c.qu c.st w).mono ?_
 rintro e w' ⟨rfl,rfl⟩
 exact ⟨by rw [good_ok c hc],(Chg.refl [] w).alloc _⟩
section
variable {W w:World} {c:Cg} {sy n:Nat} {F:List Nat} {S:Mst} {cur:Nat→List Int} (hm:MS W w c sy F S) (hI:Inv c n S cur)
include hm hI
omit hm in
end
end
end Go.Proofs.YtlidfghgjjffaaaGreatDoor
