/- Texts of the walk, one behind the other: Reb Rec Red Ree Rex Mcj Mck. No condition. -/
import Derived.Test.YtcgjofbkcgedfaaGreatDoorMPaa
import Derived.Test.YtcgjofbkcgedfaaGreatDoorMPap
import Derived.Test.YtcgjofbkcgedfaaGreatDoorMPaq
import Derived.StillTailTactics
namespace Go.Proofs.YtcgjofbkcgedfaaGreatDoor
open Go.RowKit
set_option linter.unusedVariables false
set_option maxHeartbeats 1000000
set_option maxRecDepth 100000
attribute [local go_sem ↓] QE Qs Qk Qh heap_alloc Ql heap_setCell Qc Xg ZP loadPts Qg8 Xh XW XV XU Xj pts_0 pts_1 pts_2 pts_3 pts_4
attribute [local go_sem] Qb Qa Qd Qi Qe Qg Qf QB Qw QK QA Qr QD QW QJ Qq QC Qp Qj Qo Qn Xf widePts QG ZQ Xi ZR XT Qco Qcn Qcm Qcl Qck pts_lit Qat pts_one pts_ne Qhg Qhf Qhe Qhd Qhc
attribute [local simp ↓] Qk Qh heap_alloc Ql heap_setCell Qc
attribute [local simp] Qb Qa Qd Qi Qe Qg Qf Qr Qj Qo Qn QG Qat QD
attribute [local go_sem] insZ_op insZ_a insZ_b insZ_c insZ_im
section
theorem rgood_0 (w:World):Calls Tryz.prog 80 #[.agg (insc ⟨0,0,0,0,0⟩)] w fun e w'=>e=.returned (.bool true)∧w'=w.alloc (.cells (insc ⟨0,0,0,0,0⟩) 68):=by
 have hx:(w.alloc (.cells (insc ⟨0,0,0,0,0⟩) 68)).heap[w.heap.size]? =some (.cells (insc ⟨0,0,0,0,0⟩) 68 (0,0)):=by simp
 have LA:hasA 0=false:=by decide
 have LB:hasB 0=false:=by decide
 have LC:hasC 0=false:=by decide
 have LI:hasI 0=false:=by decide
 go_enter Tryz.func80,Tryz.ntmps80
 try dsimp only [List.append]
 go_wp2_with (first |(go_at_call 105;(with_reducible refine (JA 0 (by omega) (by omega) _).mono ?_);rintro e w' ⟨rfl,rfl⟩)|(go_at_call 105;(with_reducible refine (Jz 0 (by omega) (by omega) _).mono ?_);rintro e w' ⟨rfl,rfl⟩)|(go_at_call 105;(with_reducible refine (Jy 0 (by omega) (by omega) _).mono ?_);rintro e w' ⟨rfl,rfl⟩)|(go_at_call 105;(with_reducible refine (Jx 0 (by omega) (by omega) _).mono ?_);rintro e w' ⟨rfl,rfl⟩))
 go_ret
 exact ⟨rfl,rfl⟩
theorem rgood_1 (a m:Int) (ha:0≤a∧a<8) (hm: -2147483648≤m∧m≤2147483647) (w:World):Calls Tryz.prog 80 #[.agg (insc ⟨1,a,0,0,m⟩)] w fun e w'=>e=.returned (.bool true)∧w'=w.alloc (.cells (insc ⟨1,a,0,0,m⟩) 68):=by
 have hx:(w.alloc (.cells (insc ⟨1,a,0,0,m⟩) 68)).heap[w.heap.size]? =some (.cells (insc ⟨1,a,0,0,m⟩) 68 (0,0)):=by simp
 have d1a:decide (0≤a)=true:=by simp;omega
 have d2a:decide (a≤7)=true:=by simp;omega
 have Ra:=Vh (fun w=>rreg a w)
 rw [d1a,d2a] at Ra
 have e1:decide (-2147483648≤m)=true:=by simp;omega
 have e2:decide (m<2147483648)=true:=by simp;omega
 have LA:hasA 1=true:=by decide
 have LB:hasB 1=false:=by decide
 have LC:hasC 1=false:=by decide
 have LI:hasI 1=true:=by decide
 clear ha hm
 go_enter Tryz.func80,Tryz.ntmps80
 try dsimp only [List.append]
 go_wp2_with (first |(go_at_call 105;(with_reducible refine (JA 1 (by omega) (by omega) _).mono ?_);rintro e w' ⟨rfl,rfl⟩)|(go_at_call 105;(with_reducible refine (Jz 1 (by omega) (by omega) _).mono ?_);rintro e w' ⟨rfl,rfl⟩)|(go_at_call 105;(with_reducible refine (Jy 1 (by omega) (by omega) _).mono ?_);rintro e w' ⟨rfl,rfl⟩)|(go_at_call 105;(with_reducible refine (Jx 1 (by omega) (by omega) _).mono ?_);rintro e w' ⟨rfl,rfl⟩)|(go_at_call 106;(with_reducible refine (Ra.out _).mono ?_);rintro e w' ⟨rfl,rfl⟩))
 go_ret
 exact ⟨rfl,rfl⟩
theorem rgood_2 (a b c:Int) (ha:0≤a∧a<8) (hb:0≤b∧b<8) (hc:0≤c∧c<8) (w:World):Calls Tryz.prog 80 #[.agg (insc ⟨2,a,b,c,0⟩)] w fun e w'=>e=.returned (.bool true)∧w'=w.alloc (.cells (insc ⟨2,a,b,c,0⟩) 68):=by
 have hx:(w.alloc (.cells (insc ⟨2,a,b,c,0⟩) 68)).heap[w.heap.size]? =some (.cells (insc ⟨2,a,b,c,0⟩) 68 (0,0)):=by simp
 have d1a:decide (0≤a)=true:=by simp;omega
 have d2a:decide (a≤7)=true:=by simp;omega
 have Ra:=Vh (fun w=>rreg a w)
 rw [d1a,d2a] at Ra
 have d1b:decide (0≤b)=true:=by simp;omega
 have d2b:decide (b≤7)=true:=by simp;omega
 have Rb:=Vh (fun w=>rreg b w)
 rw [d1b,d2b] at Rb
 have d1c:decide (0≤c)=true:=by simp;omega
 have d2c:decide (c≤7)=true:=by simp;omega
 have Rc:=Vh (fun w=>rreg c w)
 rw [d1c,d2c] at Rc
 have LA:hasA 2=true:=by decide
 have LB:hasB 2=true:=by decide
 have LC:hasC 2=true:=by decide
 have LI:hasI 2=false:=by decide
 clear ha hb hc
 go_enter Tryz.func80,Tryz.ntmps80
 try dsimp only [List.append]
 go_wp2_with (first |(go_at_call 105;(with_reducible refine (JA 2 (by omega) (by omega) _).mono ?_);rintro e w' ⟨rfl,rfl⟩)|(go_at_call 105;(with_reducible refine (Jz 2 (by omega) (by omega) _).mono ?_);rintro e w' ⟨rfl,rfl⟩)|(go_at_call 105;(with_reducible refine (Jy 2 (by omega) (by omega) _).mono ?_);rintro e w' ⟨rfl,rfl⟩)|(go_at_call 105;(with_reducible refine (Jx 2 (by omega) (by omega) _).mono ?_);rintro e w' ⟨rfl,rfl⟩)|(go_at_call 106;(with_reducible refine (Ra.out _).mono ?_);rintro e w' ⟨rfl,rfl⟩)|(go_at_call 106;(with_reducible refine (Rb.out _).mono ?_);rintro e w' ⟨rfl,rfl⟩)|(go_at_call 106;(with_reducible refine (Rc.out _).mono ?_);rintro e w' ⟨rfl,rfl⟩))
 go_ret
 exact ⟨rfl,rfl⟩
theorem rgood_3 (a b c:Int) (ha:0≤a∧a<8) (hb:0≤b∧b<8) (hc:0≤c∧c<8) (w:World):Calls Tryz.prog 80 #[.agg (insc ⟨3,a,b,c,0⟩)] w fun e w'=>e=.returned (.bool true)∧w'=w.alloc (.cells (insc ⟨3,a,b,c,0⟩) 68):=by
 have hx:(w.alloc (.cells (insc ⟨3,a,b,c,0⟩) 68)).heap[w.heap.size]? =some (.cells (insc ⟨3,a,b,c,0⟩) 68 (0,0)):=by simp
 have d1a:decide (0≤a)=true:=by simp;omega
 have d2a:decide (a≤7)=true:=by simp;omega
 have Ra:=Vh (fun w=>rreg a w)
 rw [d1a,d2a] at Ra
 have d1b:decide (0≤b)=true:=by simp;omega
 have d2b:decide (b≤7)=true:=by simp;omega
 have Rb:=Vh (fun w=>rreg b w)
 rw [d1b,d2b] at Rb
 have d1c:decide (0≤c)=true:=by simp;omega
 have d2c:decide (c≤7)=true:=by simp;omega
 have Rc:=Vh (fun w=>rreg c w)
 rw [d1c,d2c] at Rc
 have LA:hasA 3=true:=by decide
 have LB:hasB 3=true:=by decide
 have LC:hasC 3=true:=by decide
 have LI:hasI 3=false:=by decide
 clear ha hb hc
 go_enter Tryz.func80,Tryz.ntmps80
 try dsimp only [List.append]
 go_wp2_with (first |(go_at_call 105;(with_reducible refine (JA 3 (by omega) (by omega) _).mono ?_);rintro e w' ⟨rfl,rfl⟩)|(go_at_call 105;(with_reducible refine (Jz 3 (by omega) (by omega) _).mono ?_);rintro e w' ⟨rfl,rfl⟩)|(go_at_call 105;(with_reducible refine (Jy 3 (by omega) (by omega) _).mono ?_);rintro e w' ⟨rfl,rfl⟩)|(go_at_call 105;(with_reducible refine (Jx 3 (by omega) (by omega) _).mono ?_);rintro e w' ⟨rfl,rfl⟩)|(go_at_call 106;(with_reducible refine (Ra.out _).mono ?_);rintro e w' ⟨rfl,rfl⟩)|(go_at_call 106;(with_reducible refine (Rb.out _).mono ?_);rintro e w' ⟨rfl,rfl⟩)|(go_at_call 106;(with_reducible refine (Rc.out _).mono ?_);rintro e w' ⟨rfl,rfl⟩))
 go_ret
 exact ⟨rfl,rfl⟩
theorem rgood_4 (a b c:Int) (ha:0≤a∧a<8) (hb:0≤b∧b<8) (hc:0≤c∧c<8) (w:World):Calls Tryz.prog 80 #[.agg (insc ⟨4,a,b,c,0⟩)] w fun e w'=>e=.returned (.bool true)∧w'=w.alloc (.cells (insc ⟨4,a,b,c,0⟩) 68):=by
 have hx:(w.alloc (.cells (insc ⟨4,a,b,c,0⟩) 68)).heap[w.heap.size]? =some (.cells (insc ⟨4,a,b,c,0⟩) 68 (0,0)):=by simp
 have d1a:decide (0≤a)=true:=by simp;omega
 have d2a:decide (a≤7)=true:=by simp;omega
 have Ra:=Vh (fun w=>rreg a w)
 rw [d1a,d2a] at Ra
 have d1b:decide (0≤b)=true:=by simp;omega
 have d2b:decide (b≤7)=true:=by simp;omega
 have Rb:=Vh (fun w=>rreg b w)
 rw [d1b,d2b] at Rb
 have d1c:decide (0≤c)=true:=by simp;omega
 have d2c:decide (c≤7)=true:=by simp;omega
 have Rc:=Vh (fun w=>rreg c w)
 rw [d1c,d2c] at Rc
 have LA:hasA 4=true:=by decide
 have LB:hasB 4=true:=by decide
 have LC:hasC 4=true:=by decide
 have LI:hasI 4=false:=by decide
 clear ha hb hc
 go_enter Tryz.func80,Tryz.ntmps80
 try dsimp only [List.append]
 go_wp2_with (first |(go_at_call 105;(with_reducible refine (JA 4 (by omega) (by omega) _).mono ?_);rintro e w' ⟨rfl,rfl⟩)|(go_at_call 105;(with_reducible refine (Jz 4 (by omega) (by omega) _).mono ?_);rintro e w' ⟨rfl,rfl⟩)|(go_at_call 105;(with_reducible refine (Jy 4 (by omega) (by omega) _).mono ?_);rintro e w' ⟨rfl,rfl⟩)|(go_at_call 105;(with_reducible refine (Jx 4 (by omega) (by omega) _).mono ?_);rintro e w' ⟨rfl,rfl⟩)|(go_at_call 106;(with_reducible refine (Ra.out _).mono ?_);rintro e w' ⟨rfl,rfl⟩)|(go_at_call 106;(with_reducible refine (Rb.out _).mono ?_);rintro e w' ⟨rfl,rfl⟩)|(go_at_call 106;(with_reducible refine (Rc.out _).mono ?_);rintro e w' ⟨rfl,rfl⟩))
 go_ret
 exact ⟨rfl,rfl⟩
theorem rgood_5 (a b c:Int) (ha:0≤a∧a<8) (hb:0≤b∧b<8) (hc:0≤c∧c<8) (w:World):Calls Tryz.prog 80 #[.agg (insc ⟨5,a,b,c,0⟩)] w fun e w'=>e=.returned (.bool true)∧w'=w.alloc (.cells (insc ⟨5,a,b,c,0⟩) 68):=by
 have hx:(w.alloc (.cells (insc ⟨5,a,b,c,0⟩) 68)).heap[w.heap.size]? =some (.cells (insc ⟨5,a,b,c,0⟩) 68 (0,0)):=by simp
 have d1a:decide (0≤a)=true:=by simp;omega
 have d2a:decide (a≤7)=true:=by simp;omega
 have Ra:=Vh (fun w=>rreg a w)
 rw [d1a,d2a] at Ra
 have d1b:decide (0≤b)=true:=by simp;omega
 have d2b:decide (b≤7)=true:=by simp;omega
 have Rb:=Vh (fun w=>rreg b w)
 rw [d1b,d2b] at Rb
 have d1c:decide (0≤c)=true:=by simp;omega
 have d2c:decide (c≤7)=true:=by simp;omega
 have Rc:=Vh (fun w=>rreg c w)
 rw [d1c,d2c] at Rc
 have LA:hasA 5=true:=by decide
 have LB:hasB 5=true:=by decide
 have LC:hasC 5=true:=by decide
 have LI:hasI 5=false:=by decide
 clear ha hb hc
 go_enter Tryz.func80,Tryz.ntmps80
 try dsimp only [List.append]
 go_wp2_with (first |(go_at_call 105;(with_reducible refine (JA 5 (by omega) (by omega) _).mono ?_);rintro e w' ⟨rfl,rfl⟩)|(go_at_call 105;(with_reducible refine (Jz 5 (by omega) (by omega) _).mono ?_);rintro e w' ⟨rfl,rfl⟩)|(go_at_call 105;(with_reducible refine (Jy 5 (by omega) (by omega) _).mono ?_);rintro e w' ⟨rfl,rfl⟩)|(go_at_call 105;(with_reducible refine (Jx 5 (by omega) (by omega) _).mono ?_);rintro e w' ⟨rfl,rfl⟩)|(go_at_call 106;(with_reducible refine (Ra.out _).mono ?_);rintro e w' ⟨rfl,rfl⟩)|(go_at_call 106;(with_reducible refine (Rb.out _).mono ?_);rintro e w' ⟨rfl,rfl⟩)|(go_at_call 106;(with_reducible refine (Rc.out _).mono ?_);rintro e w' ⟨rfl,rfl⟩))
 go_ret
 exact ⟨rfl,rfl⟩
theorem rgood_6 (a b c:Int) (ha:0≤a∧a<8) (hb:0≤b∧b<8) (hc:0≤c∧c<8) (w:World):Calls Tryz.prog 80 #[.agg (insc ⟨6,a,b,c,0⟩)] w fun e w'=>e=.returned (.bool true)∧w'=w.alloc (.cells (insc ⟨6,a,b,c,0⟩) 68):=by
 have hx:(w.alloc (.cells (insc ⟨6,a,b,c,0⟩) 68)).heap[w.heap.size]? =some (.cells (insc ⟨6,a,b,c,0⟩) 68 (0,0)):=by simp
 have d1a:decide (0≤a)=true:=by simp;omega
 have d2a:decide (a≤7)=true:=by simp;omega
 have Ra:=Vh (fun w=>rreg a w)
 rw [d1a,d2a] at Ra
 have d1b:decide (0≤b)=true:=by simp;omega
 have d2b:decide (b≤7)=true:=by simp;omega
 have Rb:=Vh (fun w=>rreg b w)
 rw [d1b,d2b] at Rb
 have d1c:decide (0≤c)=true:=by simp;omega
 have d2c:decide (c≤7)=true:=by simp;omega
 have Rc:=Vh (fun w=>rreg c w)
 rw [d1c,d2c] at Rc
 have LA:hasA 6=true:=by decide
 have LB:hasB 6=true:=by decide
 have LC:hasC 6=true:=by decide
 have LI:hasI 6=false:=by decide
 clear ha hb hc
 go_enter Tryz.func80,Tryz.ntmps80
 try dsimp only [List.append]
 go_wp2_with (first |(go_at_call 105;(with_reducible refine (JA 6 (by omega) (by omega) _).mono ?_);rintro e w' ⟨rfl,rfl⟩)|(go_at_call 105;(with_reducible refine (Jz 6 (by omega) (by omega) _).mono ?_);rintro e w' ⟨rfl,rfl⟩)|(go_at_call 105;(with_reducible refine (Jy 6 (by omega) (by omega) _).mono ?_);rintro e w' ⟨rfl,rfl⟩)|(go_at_call 105;(with_reducible refine (Jx 6 (by omega) (by omega) _).mono ?_);rintro e w' ⟨rfl,rfl⟩)|(go_at_call 106;(with_reducible refine (Ra.out _).mono ?_);rintro e w' ⟨rfl,rfl⟩)|(go_at_call 106;(with_reducible refine (Rb.out _).mono ?_);rintro e w' ⟨rfl,rfl⟩)|(go_at_call 106;(with_reducible refine (Rc.out _).mono ?_);rintro e w' ⟨rfl,rfl⟩))
 go_ret
 exact ⟨rfl,rfl⟩
theorem rgood_7 (a b c:Int) (ha:0≤a∧a<8) (hb:0≤b∧b<8) (hc:0≤c∧c<8) (w:World):Calls Tryz.prog 80 #[.agg (insc ⟨7,a,b,c,0⟩)] w fun e w'=>e=.returned (.bool true)∧w'=w.alloc (.cells (insc ⟨7,a,b,c,0⟩) 68):=by
 have hx:(w.alloc (.cells (insc ⟨7,a,b,c,0⟩) 68)).heap[w.heap.size]? =some (.cells (insc ⟨7,a,b,c,0⟩) 68 (0,0)):=by simp
 have d1a:decide (0≤a)=true:=by simp;omega
 have d2a:decide (a≤7)=true:=by simp;omega
 have Ra:=Vh (fun w=>rreg a w)
 rw [d1a,d2a] at Ra
 have d1b:decide (0≤b)=true:=by simp;omega
 have d2b:decide (b≤7)=true:=by simp;omega
 have Rb:=Vh (fun w=>rreg b w)
 rw [d1b,d2b] at Rb
 have d1c:decide (0≤c)=true:=by simp;omega
 have d2c:decide (c≤7)=true:=by simp;omega
 have Rc:=Vh (fun w=>rreg c w)
 rw [d1c,d2c] at Rc
 have LA:hasA 7=true:=by decide
 have LB:hasB 7=true:=by decide
 have LC:hasC 7=true:=by decide
 have LI:hasI 7=false:=by decide
 clear ha hb hc
 go_enter Tryz.func80,Tryz.ntmps80
 try dsimp only [List.append]
 go_wp2_with (first |(go_at_call 105;(with_reducible refine (JA 7 (by omega) (by omega) _).mono ?_);rintro e w' ⟨rfl,rfl⟩)|(go_at_call 105;(with_reducible refine (Jz 7 (by omega) (by omega) _).mono ?_);rintro e w' ⟨rfl,rfl⟩)|(go_at_call 105;(with_reducible refine (Jy 7 (by omega) (by omega) _).mono ?_);rintro e w' ⟨rfl,rfl⟩)|(go_at_call 105;(with_reducible refine (Jx 7 (by omega) (by omega) _).mono ?_);rintro e w' ⟨rfl,rfl⟩)|(go_at_call 106;(with_reducible refine (Ra.out _).mono ?_);rintro e w' ⟨rfl,rfl⟩)|(go_at_call 106;(with_reducible refine (Rb.out _).mono ?_);rintro e w' ⟨rfl,rfl⟩)|(go_at_call 106;(with_reducible refine (Rc.out _).mono ?_);rintro e w' ⟨rfl,rfl⟩))
 go_ret
 exact ⟨rfl,rfl⟩
theorem rgood_8 (a b m:Int) (ha:0≤a∧a<8) (hb:0≤b∧b<8) (hm: -2147483648≤m∧m≤2147483647) (w:World):Calls Tryz.prog 80 #[.agg (insc ⟨8,a,b,0,m⟩)] w fun e w'=>e=.returned (.bool true)∧w'=w.alloc (.cells (insc ⟨8,a,b,0,m⟩) 68):=by
 have hx:(w.alloc (.cells (insc ⟨8,a,b,0,m⟩) 68)).heap[w.heap.size]? =some (.cells (insc ⟨8,a,b,0,m⟩) 68 (0,0)):=by simp
 have d1a:decide (0≤a)=true:=by simp;omega
 have d2a:decide (a≤7)=true:=by simp;omega
 have Ra:=Vh (fun w=>rreg a w)
 rw [d1a,d2a] at Ra
 have d1b:decide (0≤b)=true:=by simp;omega
 have d2b:decide (b≤7)=true:=by simp;omega
 have Rb:=Vh (fun w=>rreg b w)
 rw [d1b,d2b] at Rb
 have e1:decide (-2147483648≤m)=true:=by simp;omega
 have e2:decide (m<2147483648)=true:=by simp;omega
 have LA:hasA 8=true:=by decide
 have LB:hasB 8=true:=by decide
 have LC:hasC 8=false:=by decide
 have LI:hasI 8=true:=by decide
 clear ha hb hm
 go_enter Tryz.func80,Tryz.ntmps80
 try dsimp only [List.append]
 go_wp2_with (first |(go_at_call 105;(with_reducible refine (JA 8 (by omega) (by omega) _).mono ?_);rintro e w' ⟨rfl,rfl⟩)|(go_at_call 105;(with_reducible refine (Jz 8 (by omega) (by omega) _).mono ?_);rintro e w' ⟨rfl,rfl⟩)|(go_at_call 105;(with_reducible refine (Jy 8 (by omega) (by omega) _).mono ?_);rintro e w' ⟨rfl,rfl⟩)|(go_at_call 105;(with_reducible refine (Jx 8 (by omega) (by omega) _).mono ?_);rintro e w' ⟨rfl,rfl⟩)|(go_at_call 106;(with_reducible refine (Ra.out _).mono ?_);rintro e w' ⟨rfl,rfl⟩)|(go_at_call 106;(with_reducible refine (Rb.out _).mono ?_);rintro e w' ⟨rfl,rfl⟩))
 go_ret
 exact ⟨rfl,rfl⟩
theorem rgood_9 (a b m:Int) (ha:0≤a∧a<8) (hb:0≤b∧b<8) (hm: -2147483648≤m∧m≤2147483647) (w:World):Calls Tryz.prog 80 #[.agg (insc ⟨9,a,b,0,m⟩)] w fun e w'=>e=.returned (.bool true)∧w'=w.alloc (.cells (insc ⟨9,a,b,0,m⟩) 68):=by
 have hx:(w.alloc (.cells (insc ⟨9,a,b,0,m⟩) 68)).heap[w.heap.size]? =some (.cells (insc ⟨9,a,b,0,m⟩) 68 (0,0)):=by simp
 have d1a:decide (0≤a)=true:=by simp;omega
 have d2a:decide (a≤7)=true:=by simp;omega
 have Ra:=Vh (fun w=>rreg a w)
 rw [d1a,d2a] at Ra
 have d1b:decide (0≤b)=true:=by simp;omega
 have d2b:decide (b≤7)=true:=by simp;omega
 have Rb:=Vh (fun w=>rreg b w)
 rw [d1b,d2b] at Rb
 have e1:decide (-2147483648≤m)=true:=by simp;omega
 have e2:decide (m<2147483648)=true:=by simp;omega
 have LA:hasA 9=true:=by decide
 have LB:hasB 9=true:=by decide
 have LC:hasC 9=false:=by decide
 have LI:hasI 9=true:=by decide
 clear ha hb hm
 go_enter Tryz.func80,Tryz.ntmps80
 try dsimp only [List.append]
 go_wp2_with (first |(go_at_call 105;(with_reducible refine (JA 9 (by omega) (by omega) _).mono ?_);rintro e w' ⟨rfl,rfl⟩)|(go_at_call 105;(with_reducible refine (Jz 9 (by omega) (by omega) _).mono ?_);rintro e w' ⟨rfl,rfl⟩)|(go_at_call 105;(with_reducible refine (Jy 9 (by omega) (by omega) _).mono ?_);rintro e w' ⟨rfl,rfl⟩)|(go_at_call 105;(with_reducible refine (Jx 9 (by omega) (by omega) _).mono ?_);rintro e w' ⟨rfl,rfl⟩)|(go_at_call 106;(with_reducible refine (Ra.out _).mono ?_);rintro e w' ⟨rfl,rfl⟩)|(go_at_call 106;(with_reducible refine (Rb.out _).mono ?_);rintro e w' ⟨rfl,rfl⟩))
 go_ret
 exact ⟨rfl,rfl⟩
theorem rgood_10 (a b c:Int) (ha:0≤a∧a<8) (hb:0≤b∧b<8) (hc:0≤c∧c<8) (w:World):Calls Tryz.prog 80 #[.agg (insc ⟨10,a,b,c,0⟩)] w fun e w'=>e=.returned (.bool true)∧w'=w.alloc (.cells (insc ⟨10,a,b,c,0⟩) 68):=by
 have hx:(w.alloc (.cells (insc ⟨10,a,b,c,0⟩) 68)).heap[w.heap.size]? =some (.cells (insc ⟨10,a,b,c,0⟩) 68 (0,0)):=by simp
 have d1a:decide (0≤a)=true:=by simp;omega
 have d2a:decide (a≤7)=true:=by simp;omega
 have Ra:=Vh (fun w=>rreg a w)
 rw [d1a,d2a] at Ra
 have d1b:decide (0≤b)=true:=by simp;omega
 have d2b:decide (b≤7)=true:=by simp;omega
 have Rb:=Vh (fun w=>rreg b w)
 rw [d1b,d2b] at Rb
 have d1c:decide (0≤c)=true:=by simp;omega
 have d2c:decide (c≤7)=true:=by simp;omega
 have Rc:=Vh (fun w=>rreg c w)
 rw [d1c,d2c] at Rc
 have LA:hasA 10=true:=by decide
 have LB:hasB 10=true:=by decide
 have LC:hasC 10=true:=by decide
 have LI:hasI 10=false:=by decide
 clear ha hb hc
 go_enter Tryz.func80,Tryz.ntmps80
 try dsimp only [List.append]
 go_wp2_with (first |(go_at_call 105;(with_reducible refine (JA 10 (by omega) (by omega) _).mono ?_);rintro e w' ⟨rfl,rfl⟩)|(go_at_call 105;(with_reducible refine (Jz 10 (by omega) (by omega) _).mono ?_);rintro e w' ⟨rfl,rfl⟩)|(go_at_call 105;(with_reducible refine (Jy 10 (by omega) (by omega) _).mono ?_);rintro e w' ⟨rfl,rfl⟩)|(go_at_call 105;(with_reducible refine (Jx 10 (by omega) (by omega) _).mono ?_);rintro e w' ⟨rfl,rfl⟩)|(go_at_call 106;(with_reducible refine (Ra.out _).mono ?_);rintro e w' ⟨rfl,rfl⟩)|(go_at_call 106;(with_reducible refine (Rb.out _).mono ?_);rintro e w' ⟨rfl,rfl⟩)|(go_at_call 106;(with_reducible refine (Rc.out _).mono ?_);rintro e w' ⟨rfl,rfl⟩))
 go_ret
 exact ⟨rfl,rfl⟩
theorem rgood_11 (a b c:Int) (ha:0≤a∧a<8) (hb:0≤b∧b<8) (hc:0≤c∧c<8) (w:World):Calls Tryz.prog 80 #[.agg (insc ⟨11,a,b,c,0⟩)] w fun e w'=>e=.returned (.bool true)∧w'=w.alloc (.cells (insc ⟨11,a,b,c,0⟩) 68):=by
 have hx:(w.alloc (.cells (insc ⟨11,a,b,c,0⟩) 68)).heap[w.heap.size]? =some (.cells (insc ⟨11,a,b,c,0⟩) 68 (0,0)):=by simp
 have d1a:decide (0≤a)=true:=by simp;omega
 have d2a:decide (a≤7)=true:=by simp;omega
 have Ra:=Vh (fun w=>rreg a w)
 rw [d1a,d2a] at Ra
 have d1b:decide (0≤b)=true:=by simp;omega
 have d2b:decide (b≤7)=true:=by simp;omega
 have Rb:=Vh (fun w=>rreg b w)
 rw [d1b,d2b] at Rb
 have d1c:decide (0≤c)=true:=by simp;omega
 have d2c:decide (c≤7)=true:=by simp;omega
 have Rc:=Vh (fun w=>rreg c w)
 rw [d1c,d2c] at Rc
 have LA:hasA 11=true:=by decide
 have LB:hasB 11=true:=by decide
 have LC:hasC 11=true:=by decide
 have LI:hasI 11=false:=by decide
 clear ha hb hc
 go_enter Tryz.func80,Tryz.ntmps80
 try dsimp only [List.append]
 go_wp2_with (first |(go_at_call 105;(with_reducible refine (JA 11 (by omega) (by omega) _).mono ?_);rintro e w' ⟨rfl,rfl⟩)|(go_at_call 105;(with_reducible refine (Jz 11 (by omega) (by omega) _).mono ?_);rintro e w' ⟨rfl,rfl⟩)|(go_at_call 105;(with_reducible refine (Jy 11 (by omega) (by omega) _).mono ?_);rintro e w' ⟨rfl,rfl⟩)|(go_at_call 105;(with_reducible refine (Jx 11 (by omega) (by omega) _).mono ?_);rintro e w' ⟨rfl,rfl⟩)|(go_at_call 106;(with_reducible refine (Ra.out _).mono ?_);rintro e w' ⟨rfl,rfl⟩)|(go_at_call 106;(with_reducible refine (Rb.out _).mono ?_);rintro e w' ⟨rfl,rfl⟩)|(go_at_call 106;(with_reducible refine (Rc.out _).mono ?_);rintro e w' ⟨rfl,rfl⟩))
 go_ret
 exact ⟨rfl,rfl⟩
theorem rgood_12 (b m:Int) (hb:0≤b∧b<8) (hm: -2147483648≤m∧m≤2147483647) (w:World):Calls Tryz.prog 80 #[.agg (insc ⟨12,0,b,0,m⟩)] w fun e w'=>e=.returned (.bool true)∧w'=w.alloc (.cells (insc ⟨12,0,b,0,m⟩) 68):=by
 have hx:(w.alloc (.cells (insc ⟨12,0,b,0,m⟩) 68)).heap[w.heap.size]? =some (.cells (insc ⟨12,0,b,0,m⟩) 68 (0,0)):=by simp
 have d1b:decide (0≤b)=true:=by simp;omega
 have d2b:decide (b≤7)=true:=by simp;omega
 have Rb:=Vh (fun w=>rreg b w)
 rw [d1b,d2b] at Rb
 have e1:decide (-2147483648≤m)=true:=by simp;omega
 have e2:decide (m<2147483648)=true:=by simp;omega
 have LA:hasA 12=false:=by decide
 have LB:hasB 12=true:=by decide
 have LC:hasC 12=false:=by decide
 have LI:hasI 12=true:=by decide
 clear hb hm
 go_enter Tryz.func80,Tryz.ntmps80
 try dsimp only [List.append]
 go_wp2_with (first |(go_at_call 105;(with_reducible refine (JA 12 (by omega) (by omega) _).mono ?_);rintro e w' ⟨rfl,rfl⟩)|(go_at_call 105;(with_reducible refine (Jz 12 (by omega) (by omega) _).mono ?_);rintro e w' ⟨rfl,rfl⟩)|(go_at_call 105;(with_reducible refine (Jy 12 (by omega) (by omega) _).mono ?_);rintro e w' ⟨rfl,rfl⟩)|(go_at_call 105;(with_reducible refine (Jx 12 (by omega) (by omega) _).mono ?_);rintro e w' ⟨rfl,rfl⟩)|(go_at_call 106;(with_reducible refine (Rb.out _).mono ?_);rintro e w' ⟨rfl,rfl⟩))
 go_ret
 exact ⟨rfl,rfl⟩
theorem rgood_13 (b m:Int) (hb:0≤b∧b<8) (hm: -2147483648≤m∧m≤2147483647) (w:World):Calls Tryz.prog 80 #[.agg (insc ⟨13,0,b,0,m⟩)] w fun e w'=>e=.returned (.bool true)∧w'=w.alloc (.cells (insc ⟨13,0,b,0,m⟩) 68):=by
 have hx:(w.alloc (.cells (insc ⟨13,0,b,0,m⟩) 68)).heap[w.heap.size]? =some (.cells (insc ⟨13,0,b,0,m⟩) 68 (0,0)):=by simp
 have d1b:decide (0≤b)=true:=by simp;omega
 have d2b:decide (b≤7)=true:=by simp;omega
 have Rb:=Vh (fun w=>rreg b w)
 rw [d1b,d2b] at Rb
 have e1:decide (-2147483648≤m)=true:=by simp;omega
 have e2:decide (m<2147483648)=true:=by simp;omega
 have LA:hasA 13=false:=by decide
 have LB:hasB 13=true:=by decide
 have LC:hasC 13=false:=by decide
 have LI:hasI 13=true:=by decide
 clear hb hm
 go_enter Tryz.func80,Tryz.ntmps80
 try dsimp only [List.append]
 go_wp2_with (first |(go_at_call 105;(with_reducible refine (JA 13 (by omega) (by omega) _).mono ?_);rintro e w' ⟨rfl,rfl⟩)|(go_at_call 105;(with_reducible refine (Jz 13 (by omega) (by omega) _).mono ?_);rintro e w' ⟨rfl,rfl⟩)|(go_at_call 105;(with_reducible refine (Jy 13 (by omega) (by omega) _).mono ?_);rintro e w' ⟨rfl,rfl⟩)|(go_at_call 105;(with_reducible refine (Jx 13 (by omega) (by omega) _).mono ?_);rintro e w' ⟨rfl,rfl⟩)|(go_at_call 106;(with_reducible refine (Rb.out _).mono ?_);rintro e w' ⟨rfl,rfl⟩))
 go_ret
 exact ⟨rfl,rfl⟩
theorem rgood_14 (b m:Int) (hb:0≤b∧b<8) (hm: -2147483648≤m∧m≤2147483647) (w:World):Calls Tryz.prog 80 #[.agg (insc ⟨14,0,b,0,m⟩)] w fun e w'=>e=.returned (.bool true)∧w'=w.alloc (.cells (insc ⟨14,0,b,0,m⟩) 68):=by
 have hx:(w.alloc (.cells (insc ⟨14,0,b,0,m⟩) 68)).heap[w.heap.size]? =some (.cells (insc ⟨14,0,b,0,m⟩) 68 (0,0)):=by simp
 have d1b:decide (0≤b)=true:=by simp;omega
 have d2b:decide (b≤7)=true:=by simp;omega
 have Rb:=Vh (fun w=>rreg b w)
 rw [d1b,d2b] at Rb
 have e1:decide (-2147483648≤m)=true:=by simp;omega
 have e2:decide (m<2147483648)=true:=by simp;omega
 have LA:hasA 14=false:=by decide
 have LB:hasB 14=true:=by decide
 have LC:hasC 14=false:=by decide
 have LI:hasI 14=true:=by decide
 clear hb hm
 go_enter Tryz.func80,Tryz.ntmps80
 try dsimp only [List.append]
 go_wp2_with (first |(go_at_call 105;(with_reducible refine (JA 14 (by omega) (by omega) _).mono ?_);rintro e w' ⟨rfl,rfl⟩)|(go_at_call 105;(with_reducible refine (Jz 14 (by omega) (by omega) _).mono ?_);rintro e w' ⟨rfl,rfl⟩)|(go_at_call 105;(with_reducible refine (Jy 14 (by omega) (by omega) _).mono ?_);rintro e w' ⟨rfl,rfl⟩)|(go_at_call 105;(with_reducible refine (Jx 14 (by omega) (by omega) _).mono ?_);rintro e w' ⟨rfl,rfl⟩)|(go_at_call 106;(with_reducible refine (Rb.out _).mono ?_);rintro e w' ⟨rfl,rfl⟩))
 go_ret
 exact ⟨rfl,rfl⟩
theorem rgood_15 (w:World):Calls Tryz.prog 80 #[.agg (insc ⟨15,0,0,0,0⟩)] w fun e w'=>e=.returned (.bool true)∧w'=w.alloc (.cells (insc ⟨15,0,0,0,0⟩) 68):=by
 have hx:(w.alloc (.cells (insc ⟨15,0,0,0,0⟩) 68)).heap[w.heap.size]? =some (.cells (insc ⟨15,0,0,0,0⟩) 68 (0,0)):=by simp
 have LA:hasA 15=false:=by decide
 have LB:hasB 15=false:=by decide
 have LC:hasC 15=false:=by decide
 have LI:hasI 15=false:=by decide
 go_enter Tryz.func80,Tryz.ntmps80
 try dsimp only [List.append]
 go_wp2_with (first |(go_at_call 105;(with_reducible refine (JA 15 (by omega) (by omega) _).mono ?_);rintro e w' ⟨rfl,rfl⟩)|(go_at_call 105;(with_reducible refine (Jz 15 (by omega) (by omega) _).mono ?_);rintro e w' ⟨rfl,rfl⟩)|(go_at_call 105;(with_reducible refine (Jy 15 (by omega) (by omega) _).mono ?_);rintro e w' ⟨rfl,rfl⟩)|(go_at_call 105;(with_reducible refine (Jx 15 (by omega) (by omega) _).mono ?_);rintro e w' ⟨rfl,rfl⟩))
 go_ret
 exact ⟨rfl,rfl⟩
theorem rgood_16 (w:World):Calls Tryz.prog 80 #[.agg (insc ⟨16,0,0,0,0⟩)] w fun e w'=>e=.returned (.bool true)∧w'=w.alloc (.cells (insc ⟨16,0,0,0,0⟩) 68):=by
 have hx:(w.alloc (.cells (insc ⟨16,0,0,0,0⟩) 68)).heap[w.heap.size]? =some (.cells (insc ⟨16,0,0,0,0⟩) 68 (0,0)):=by simp
 have LA:hasA 16=false:=by decide
 have LB:hasB 16=false:=by decide
 have LC:hasC 16=false:=by decide
 have LI:hasI 16=false:=by decide
 go_enter Tryz.func80,Tryz.ntmps80
 try dsimp only [List.append]
 go_wp2_with (first |(go_at_call 105;(with_reducible refine (JA 16 (by omega) (by omega) _).mono ?_);rintro e w' ⟨rfl,rfl⟩)|(go_at_call 105;(with_reducible refine (Jz 16 (by omega) (by omega) _).mono ?_);rintro e w' ⟨rfl,rfl⟩)|(go_at_call 105;(with_reducible refine (Jy 16 (by omega) (by omega) _).mono ?_);rintro e w' ⟨rfl,rfl⟩)|(go_at_call 105;(with_reducible refine (Jx 16 (by omega) (by omega) _).mono ?_);rintro e w' ⟨rfl,rfl⟩))
 go_ret
 exact ⟨rfl,rfl⟩
theorem rgood_17 (m:Int) (hm:0≤m∧m≤2147483647) (w:World):Calls Tryz.prog 80 #[.agg (insc ⟨17,0,0,0,m⟩)] w fun e w'=>e=.returned (.bool true)∧w'=w.alloc (.cells (insc ⟨17,0,0,0,m⟩) 68):=by
 have hx:(w.alloc (.cells (insc ⟨17,0,0,0,m⟩) 68)).heap[w.heap.size]? =some (.cells (insc ⟨17,0,0,0,m⟩) 68 (0,0)):=by simp
 have e1:decide (-2147483648≤m)=true:=by simp;omega
 have e2:decide (m<2147483648)=true:=by simp;omega
 have e3:decide (0≤m)=true:=by simp;omega
 have LA:hasA 17=false:=by decide
 have LB:hasB 17=false:=by decide
 have LC:hasC 17=false:=by decide
 have LI:hasI 17=true:=by decide
 clear hm
 go_enter Tryz.func80,Tryz.ntmps80
 try dsimp only [List.append]
 go_wp2_with (first |(go_at_call 105;(with_reducible refine (JA 17 (by omega) (by omega) _).mono ?_);rintro e w' ⟨rfl,rfl⟩)|(go_at_call 105;(with_reducible refine (Jz 17 (by omega) (by omega) _).mono ?_);rintro e w' ⟨rfl,rfl⟩)|(go_at_call 105;(with_reducible refine (Jy 17 (by omega) (by omega) _).mono ?_);rintro e w' ⟨rfl,rfl⟩)|(go_at_call 105;(with_reducible refine (Jx 17 (by omega) (by omega) _).mono ?_);rintro e w' ⟨rfl,rfl⟩))
 go_ret
 exact ⟨rfl,rfl⟩
theorem rgood_18 (a b m:Int) (ha:0≤a∧a<8) (hb:0≤b∧b<8) (hm:0≤m∧m≤2147483647) (w:World):Calls Tryz.prog 80 #[.agg (insc ⟨18,a,b,0,m⟩)] w fun e w'=>e=.returned (.bool true)∧w'=w.alloc (.cells (insc ⟨18,a,b,0,m⟩) 68):=by
 have hx:(w.alloc (.cells (insc ⟨18,a,b,0,m⟩) 68)).heap[w.heap.size]? =some (.cells (insc ⟨18,a,b,0,m⟩) 68 (0,0)):=by simp
 have d1a:decide (0≤a)=true:=by simp;omega
 have d2a:decide (a≤7)=true:=by simp;omega
 have Ra:=Vh (fun w=>rreg a w)
 rw [d1a,d2a] at Ra
 have d1b:decide (0≤b)=true:=by simp;omega
 have d2b:decide (b≤7)=true:=by simp;omega
 have Rb:=Vh (fun w=>rreg b w)
 rw [d1b,d2b] at Rb
 have e1:decide (-2147483648≤m)=true:=by simp;omega
 have e2:decide (m<2147483648)=true:=by simp;omega
 have e3:decide (0≤m)=true:=by simp;omega
 have LA:hasA 18=true:=by decide
 have LB:hasB 18=true:=by decide
 have LC:hasC 18=false:=by decide
 have LI:hasI 18=true:=by decide
 clear ha hb hm
 go_enter Tryz.func80,Tryz.ntmps80
 try dsimp only [List.append]
 go_wp2_with (first |(go_at_call 105;(with_reducible refine (JA 18 (by omega) (by omega) _).mono ?_);rintro e w' ⟨rfl,rfl⟩)|(go_at_call 105;(with_reducible refine (Jz 18 (by omega) (by omega) _).mono ?_);rintro e w' ⟨rfl,rfl⟩)|(go_at_call 105;(with_reducible refine (Jy 18 (by omega) (by omega) _).mono ?_);rintro e w' ⟨rfl,rfl⟩)|(go_at_call 105;(with_reducible refine (Jx 18 (by omega) (by omega) _).mono ?_);rintro e w' ⟨rfl,rfl⟩)|(go_at_call 106;(with_reducible refine (Ra.out _).mono ?_);rintro e w' ⟨rfl,rfl⟩)|(go_at_call 106;(with_reducible refine (Rb.out _).mono ?_);rintro e w' ⟨rfl,rfl⟩))
 go_ret
 exact ⟨rfl,rfl⟩
theorem rgood_19 (a b m:Int) (ha:0≤a∧a<8) (hb:0≤b∧b<8) (hm:0≤m∧m≤2147483647) (w:World):Calls Tryz.prog 80 #[.agg (insc ⟨19,a,b,0,m⟩)] w fun e w'=>e=.returned (.bool true)∧w'=w.alloc (.cells (insc ⟨19,a,b,0,m⟩) 68):=by
 have hx:(w.alloc (.cells (insc ⟨19,a,b,0,m⟩) 68)).heap[w.heap.size]? =some (.cells (insc ⟨19,a,b,0,m⟩) 68 (0,0)):=by simp
 have d1a:decide (0≤a)=true:=by simp;omega
 have d2a:decide (a≤7)=true:=by simp;omega
 have Ra:=Vh (fun w=>rreg a w)
 rw [d1a,d2a] at Ra
 have d1b:decide (0≤b)=true:=by simp;omega
 have d2b:decide (b≤7)=true:=by simp;omega
 have Rb:=Vh (fun w=>rreg b w)
 rw [d1b,d2b] at Rb
 have e1:decide (-2147483648≤m)=true:=by simp;omega
 have e2:decide (m<2147483648)=true:=by simp;omega
 have e3:decide (0≤m)=true:=by simp;omega
 have LA:hasA 19=true:=by decide
 have LB:hasB 19=true:=by decide
 have LC:hasC 19=false:=by decide
 have LI:hasI 19=true:=by decide
 clear ha hb hm
 go_enter Tryz.func80,Tryz.ntmps80
 try dsimp only [List.append]
 go_wp2_with (first |(go_at_call 105;(with_reducible refine (JA 19 (by omega) (by omega) _).mono ?_);rintro e w' ⟨rfl,rfl⟩)|(go_at_call 105;(with_reducible refine (Jz 19 (by omega) (by omega) _).mono ?_);rintro e w' ⟨rfl,rfl⟩)|(go_at_call 105;(with_reducible refine (Jy 19 (by omega) (by omega) _).mono ?_);rintro e w' ⟨rfl,rfl⟩)|(go_at_call 105;(with_reducible refine (Jx 19 (by omega) (by omega) _).mono ?_);rintro e w' ⟨rfl,rfl⟩)|(go_at_call 106;(with_reducible refine (Ra.out _).mono ?_);rintro e w' ⟨rfl,rfl⟩)|(go_at_call 106;(with_reducible refine (Rb.out _).mono ?_);rintro e w' ⟨rfl,rfl⟩))
 go_ret
 exact ⟨rfl,rfl⟩
theorem rgood_20 (a b m:Int) (ha:0≤a∧a<8) (hb:0≤b∧b<8) (hm:0≤m∧m≤2147483647) (w:World):Calls Tryz.prog 80 #[.agg (insc ⟨20,a,b,0,m⟩)] w fun e w'=>e=.returned (.bool true)∧w'=w.alloc (.cells (insc ⟨20,a,b,0,m⟩) 68):=by
 have hx:(w.alloc (.cells (insc ⟨20,a,b,0,m⟩) 68)).heap[w.heap.size]? =some (.cells (insc ⟨20,a,b,0,m⟩) 68 (0,0)):=by simp
 have d1a:decide (0≤a)=true:=by simp;omega
 have d2a:decide (a≤7)=true:=by simp;omega
 have Ra:=Vh (fun w=>rreg a w)
 rw [d1a,d2a] at Ra
 have d1b:decide (0≤b)=true:=by simp;omega
 have d2b:decide (b≤7)=true:=by simp;omega
 have Rb:=Vh (fun w=>rreg b w)
 rw [d1b,d2b] at Rb
 have e1:decide (-2147483648≤m)=true:=by simp;omega
 have e2:decide (m<2147483648)=true:=by simp;omega
 have e3:decide (0≤m)=true:=by simp;omega
 have LA:hasA 20=true:=by decide
 have LB:hasB 20=true:=by decide
 have LC:hasC 20=false:=by decide
 have LI:hasI 20=true:=by decide
 clear ha hb hm
 go_enter Tryz.func80,Tryz.ntmps80
 try dsimp only [List.append]
 go_wp2_with (first |(go_at_call 105;(with_reducible refine (JA 20 (by omega) (by omega) _).mono ?_);rintro e w' ⟨rfl,rfl⟩)|(go_at_call 105;(with_reducible refine (Jz 20 (by omega) (by omega) _).mono ?_);rintro e w' ⟨rfl,rfl⟩)|(go_at_call 105;(with_reducible refine (Jy 20 (by omega) (by omega) _).mono ?_);rintro e w' ⟨rfl,rfl⟩)|(go_at_call 105;(with_reducible refine (Jx 20 (by omega) (by omega) _).mono ?_);rintro e w' ⟨rfl,rfl⟩)|(go_at_call 106;(with_reducible refine (Ra.out _).mono ?_);rintro e w' ⟨rfl,rfl⟩)|(go_at_call 106;(with_reducible refine (Rb.out _).mono ?_);rintro e w' ⟨rfl,rfl⟩))
 go_ret
 exact ⟨rfl,rfl⟩
theorem rgood_21 (a:Int) (ha:0≤a∧a<8) (w:World):Calls Tryz.prog 80 #[.agg (insc ⟨21,a,0,0,0⟩)] w fun e w'=>e=.returned (.bool true)∧w'=w.alloc (.cells (insc ⟨21,a,0,0,0⟩) 68):=by
 have hx:(w.alloc (.cells (insc ⟨21,a,0,0,0⟩) 68)).heap[w.heap.size]? =some (.cells (insc ⟨21,a,0,0,0⟩) 68 (0,0)):=by simp
 have d1a:decide (0≤a)=true:=by simp;omega
 have d2a:decide (a≤7)=true:=by simp;omega
 have Ra:=Vh (fun w=>rreg a w)
 rw [d1a,d2a] at Ra
 have LA:hasA 21=true:=by decide
 have LB:hasB 21=false:=by decide
 have LC:hasC 21=false:=by decide
 have LI:hasI 21=false:=by decide
 clear ha
 go_enter Tryz.func80,Tryz.ntmps80
 try dsimp only [List.append]
 go_wp2_with (first |(go_at_call 105;(with_reducible refine (JA 21 (by omega) (by omega) _).mono ?_);rintro e w' ⟨rfl,rfl⟩)|(go_at_call 105;(with_reducible refine (Jz 21 (by omega) (by omega) _).mono ?_);rintro e w' ⟨rfl,rfl⟩)|(go_at_call 105;(with_reducible refine (Jy 21 (by omega) (by omega) _).mono ?_);rintro e w' ⟨rfl,rfl⟩)|(go_at_call 105;(with_reducible refine (Jx 21 (by omega) (by omega) _).mono ?_);rintro e w' ⟨rfl,rfl⟩)|(go_at_call 106;(with_reducible refine (Ra.out _).mono ?_);rintro e w' ⟨rfl,rfl⟩))
 go_ret
 exact ⟨rfl,rfl⟩
theorem rgood_22 (w:World):Calls Tryz.prog 80 #[.agg (insc ⟨22,0,0,0,0⟩)] w fun e w'=>e=.returned (.bool true)∧w'=w.alloc (.cells (insc ⟨22,0,0,0,0⟩) 68):=by
 have hx:(w.alloc (.cells (insc ⟨22,0,0,0,0⟩) 68)).heap[w.heap.size]? =some (.cells (insc ⟨22,0,0,0,0⟩) 68 (0,0)):=by simp
 have LA:hasA 22=false:=by decide
 have LB:hasB 22=false:=by decide
 have LC:hasC 22=false:=by decide
 have LI:hasI 22=false:=by decide
 go_enter Tryz.func80,Tryz.ntmps80
 try dsimp only [List.append]
 go_wp2_with (first |(go_at_call 105;(with_reducible refine (JA 22 (by omega) (by omega) _).mono ?_);rintro e w' ⟨rfl,rfl⟩)|(go_at_call 105;(with_reducible refine (Jz 22 (by omega) (by omega) _).mono ?_);rintro e w' ⟨rfl,rfl⟩)|(go_at_call 105;(with_reducible refine (Jy 22 (by omega) (by omega) _).mono ?_);rintro e w' ⟨rfl,rfl⟩)|(go_at_call 105;(with_reducible refine (Jx 22 (by omega) (by omega) _).mono ?_);rintro e w' ⟨rfl,rfl⟩))
 go_ret
 exact ⟨rfl,rfl⟩
end
section
theorem rgood_all (i:Ins) (h:YF i=true) (w:World):Calls Tryz.prog 80 #[.agg (insc i)] w fun e w'=>e=.returned (.bool true)∧w'=w.alloc (.cells (insc i) 68):=by
 obtain ⟨op,a,b,c,m⟩:=i
 have hop:=(Zw h).1
 simp only [YF,Bool.and_eq_true] at h
 obtain ⟨_,ha,hb,hc,hm⟩:=h
 simp only at hop ha hb hc hm
 have h:op=0∨op=1∨op=2∨op=3∨op=4∨op=5∨op=6∨op=7∨op=8∨op=9∨op=10∨op=11∨op=12∨op=13∨op=14∨op=15∨op=16∨op=17∨op=18∨op=19∨op=20∨op=21∨op=22:=by omega
 clear hop
 rcases h with rfl|rfl|rfl|rfl|rfl|rfl|rfl|rfl|rfl|rfl|rfl|rfl|rfl|rfl|rfl|rfl|rfl|rfl|rfl|rfl|rfl|rfl|rfl
 ·rw [show hasA 0=false by decide] at ha
  obtain rfl:a=0:=by simpa [Yr] using ha
  rw [show hasB 0=false by decide] at hb
  obtain rfl:b=0:=by simpa [Yr] using hb
  rw [show hasC 0=false by decide] at hc
  obtain rfl:c=0:=by simpa [Yr] using hc
  unfold JC XK at hm
  rw [show hasI 0=false by decide,show J7 0=false by decide] at hm
  obtain rfl:m=0:=by simpa using hm
  exact rgood_0 w
 ·rw [show hasA 1=true by decide] at ha
  have ha':=ZA ha
  rw [show hasB 1=false by decide] at hb
  obtain rfl:b=0:=by simpa [Yr] using hb
  rw [show hasC 1=false by decide] at hc
  obtain rfl:c=0:=by simpa [Yr] using hc
  unfold JC XK at hm
  rw [show hasI 1=true by decide,show J7 1=false by decide] at hm
  have hm': -2147483648≤m∧m≤2147483647:=by simp at hm;omega
  exact rgood_1 a m ha' hm' w
 ·rw [show hasA 2=true by decide] at ha
  have ha':=ZA ha
  rw [show hasB 2=true by decide] at hb
  have hb':=ZA hb
  rw [show hasC 2=true by decide] at hc
  have hc':=ZA hc
  unfold JC XK at hm
  rw [show hasI 2=false by decide,show J7 2=false by decide] at hm
  obtain rfl:m=0:=by simpa using hm
  exact rgood_2 a b c ha' hb' hc' w
 ·rw [show hasA 3=true by decide] at ha
  have ha':=ZA ha
  rw [show hasB 3=true by decide] at hb
  have hb':=ZA hb
  rw [show hasC 3=true by decide] at hc
  have hc':=ZA hc
  unfold JC XK at hm
  rw [show hasI 3=false by decide,show J7 3=false by decide] at hm
  obtain rfl:m=0:=by simpa using hm
  exact rgood_3 a b c ha' hb' hc' w
 ·rw [show hasA 4=true by decide] at ha
  have ha':=ZA ha
  rw [show hasB 4=true by decide] at hb
  have hb':=ZA hb
  rw [show hasC 4=true by decide] at hc
  have hc':=ZA hc
  unfold JC XK at hm
  rw [show hasI 4=false by decide,show J7 4=false by decide] at hm
  obtain rfl:m=0:=by simpa using hm
  exact rgood_4 a b c ha' hb' hc' w
 ·rw [show hasA 5=true by decide] at ha
  have ha':=ZA ha
  rw [show hasB 5=true by decide] at hb
  have hb':=ZA hb
  rw [show hasC 5=true by decide] at hc
  have hc':=ZA hc
  unfold JC XK at hm
  rw [show hasI 5=false by decide,show J7 5=false by decide] at hm
  obtain rfl:m=0:=by simpa using hm
  exact rgood_5 a b c ha' hb' hc' w
 ·rw [show hasA 6=true by decide] at ha
  have ha':=ZA ha
  rw [show hasB 6=true by decide] at hb
  have hb':=ZA hb
  rw [show hasC 6=true by decide] at hc
  have hc':=ZA hc
  unfold JC XK at hm
  rw [show hasI 6=false by decide,show J7 6=false by decide] at hm
  obtain rfl:m=0:=by simpa using hm
  exact rgood_6 a b c ha' hb' hc' w
 ·rw [show hasA 7=true by decide] at ha
  have ha':=ZA ha
  rw [show hasB 7=true by decide] at hb
  have hb':=ZA hb
  rw [show hasC 7=true by decide] at hc
  have hc':=ZA hc
  unfold JC XK at hm
  rw [show hasI 7=false by decide,show J7 7=false by decide] at hm
  obtain rfl:m=0:=by simpa using hm
  exact rgood_7 a b c ha' hb' hc' w
 ·rw [show hasA 8=true by decide] at ha
  have ha':=ZA ha
  rw [show hasB 8=true by decide] at hb
  have hb':=ZA hb
  rw [show hasC 8=false by decide] at hc
  obtain rfl:c=0:=by simpa [Yr] using hc
  unfold JC XK at hm
  rw [show hasI 8=true by decide,show J7 8=false by decide] at hm
  have hm': -2147483648≤m∧m≤2147483647:=by simp at hm;omega
  exact rgood_8 a b m ha' hb' hm' w
 ·rw [show hasA 9=true by decide] at ha
  have ha':=ZA ha
  rw [show hasB 9=true by decide] at hb
  have hb':=ZA hb
  rw [show hasC 9=false by decide] at hc
  obtain rfl:c=0:=by simpa [Yr] using hc
  unfold JC XK at hm
  rw [show hasI 9=true by decide,show J7 9=false by decide] at hm
  have hm': -2147483648≤m∧m≤2147483647:=by simp at hm;omega
  exact rgood_9 a b m ha' hb' hm' w
 ·rw [show hasA 10=true by decide] at ha
  have ha':=ZA ha
  rw [show hasB 10=true by decide] at hb
  have hb':=ZA hb
  rw [show hasC 10=true by decide] at hc
  have hc':=ZA hc
  unfold JC XK at hm
  rw [show hasI 10=false by decide,show J7 10=false by decide] at hm
  obtain rfl:m=0:=by simpa using hm
  exact rgood_10 a b c ha' hb' hc' w
 ·rw [show hasA 11=true by decide] at ha
  have ha':=ZA ha
  rw [show hasB 11=true by decide] at hb
  have hb':=ZA hb
  rw [show hasC 11=true by decide] at hc
  have hc':=ZA hc
  unfold JC XK at hm
  rw [show hasI 11=false by decide,show J7 11=false by decide] at hm
  obtain rfl:m=0:=by simpa using hm
  exact rgood_11 a b c ha' hb' hc' w
 ·rw [show hasA 12=false by decide] at ha
  obtain rfl:a=0:=by simpa [Yr] using ha
  rw [show hasB 12=true by decide] at hb
  have hb':=ZA hb
  rw [show hasC 12=false by decide] at hc
  obtain rfl:c=0:=by simpa [Yr] using hc
  unfold JC XK at hm
  rw [show hasI 12=true by decide,show J7 12=false by decide] at hm
  have hm': -2147483648≤m∧m≤2147483647:=by simp at hm;omega
  exact rgood_12 b m hb' hm' w
 ·rw [show hasA 13=false by decide] at ha
  obtain rfl:a=0:=by simpa [Yr] using ha
  rw [show hasB 13=true by decide] at hb
  have hb':=ZA hb
  rw [show hasC 13=false by decide] at hc
  obtain rfl:c=0:=by simpa [Yr] using hc
  unfold JC XK at hm
  rw [show hasI 13=true by decide,show J7 13=false by decide] at hm
  have hm': -2147483648≤m∧m≤2147483647:=by simp at hm;omega
  exact rgood_13 b m hb' hm' w
 ·rw [show hasA 14=false by decide] at ha
  obtain rfl:a=0:=by simpa [Yr] using ha
  rw [show hasB 14=true by decide] at hb
  have hb':=ZA hb
  rw [show hasC 14=false by decide] at hc
  obtain rfl:c=0:=by simpa [Yr] using hc
  unfold JC XK at hm
  rw [show hasI 14=true by decide,show J7 14=false by decide] at hm
  have hm': -2147483648≤m∧m≤2147483647:=by simp at hm;omega
  exact rgood_14 b m hb' hm' w
 ·rw [show hasA 15=false by decide] at ha
  obtain rfl:a=0:=by simpa [Yr] using ha
  rw [show hasB 15=false by decide] at hb
  obtain rfl:b=0:=by simpa [Yr] using hb
  rw [show hasC 15=false by decide] at hc
  obtain rfl:c=0:=by simpa [Yr] using hc
  unfold JC XK at hm
  rw [show hasI 15=false by decide,show J7 15=false by decide] at hm
  obtain rfl:m=0:=by simpa using hm
  exact rgood_15 w
 ·rw [show hasA 16=false by decide] at ha
  obtain rfl:a=0:=by simpa [Yr] using ha
  rw [show hasB 16=false by decide] at hb
  obtain rfl:b=0:=by simpa [Yr] using hb
  rw [show hasC 16=false by decide] at hc
  obtain rfl:c=0:=by simpa [Yr] using hc
  unfold JC XK at hm
  rw [show hasI 16=false by decide,show J7 16=false by decide] at hm
  obtain rfl:m=0:=by simpa using hm
  exact rgood_16 w
 ·rw [show hasA 17=false by decide] at ha
  obtain rfl:a=0:=by simpa [Yr] using ha
  rw [show hasB 17=false by decide] at hb
  obtain rfl:b=0:=by simpa [Yr] using hb
  rw [show hasC 17=false by decide] at hc
  obtain rfl:c=0:=by simpa [Yr] using hc
  unfold JC XK at hm
  rw [show hasI 17=true by decide,show J7 17=true by decide] at hm
  have hm':0≤m∧m≤2147483647:=by simp at hm;omega
  exact rgood_17 m hm' w
 ·rw [show hasA 18=true by decide] at ha
  have ha':=ZA ha
  rw [show hasB 18=true by decide] at hb
  have hb':=ZA hb
  rw [show hasC 18=false by decide] at hc
  obtain rfl:c=0:=by simpa [Yr] using hc
  unfold JC XK at hm
  rw [show hasI 18=true by decide,show J7 18=true by decide] at hm
  have hm':0≤m∧m≤2147483647:=by simp at hm;omega
  exact rgood_18 a b m ha' hb' hm' w
 ·rw [show hasA 19=true by decide] at ha
  have ha':=ZA ha
  rw [show hasB 19=true by decide] at hb
  have hb':=ZA hb
  rw [show hasC 19=false by decide] at hc
  obtain rfl:c=0:=by simpa [Yr] using hc
  unfold JC XK at hm
  rw [show hasI 19=true by decide,show J7 19=true by decide] at hm
  have hm':0≤m∧m≤2147483647:=by simp at hm;omega
  exact rgood_19 a b m ha' hb' hm' w
 ·rw [show hasA 20=true by decide] at ha
  have ha':=ZA ha
  rw [show hasB 20=true by decide] at hb
  have hb':=ZA hb
  rw [show hasC 20=false by decide] at hc
  obtain rfl:c=0:=by simpa [Yr] using hc
  unfold JC XK at hm
  rw [show hasI 20=true by decide,show J7 20=true by decide] at hm
  have hm':0≤m∧m≤2147483647:=by simp at hm;omega
  exact rgood_20 a b m ha' hb' hm' w
 ·rw [show hasA 21=true by decide] at ha
  have ha':=ZA ha
  rw [show hasB 21=false by decide] at hb
  obtain rfl:b=0:=by simpa [Yr] using hb
  rw [show hasC 21=false by decide] at hc
  obtain rfl:c=0:=by simpa [Yr] using hc
  unfold JC XK at hm
  rw [show hasI 21=false by decide,show J7 21=false by decide] at hm
  obtain rfl:m=0:=by simpa using hm
  exact rgood_21 a ha' w
 ·rw [show hasA 22=false by decide] at ha
  obtain rfl:a=0:=by simpa [Yr] using ha
  rw [show hasB 22=false by decide] at hb
  obtain rfl:b=0:=by simpa [Yr] using hb
  rw [show hasC 22=false by decide] at hc
  obtain rfl:c=0:=by simpa [Yr] using hc
  unfold JC XK at hm
  rw [show hasI 22=false by decide,show J7 22=false by decide] at hm
  obtain rfl:m=0:=by simpa using hm
  exact rgood_22 w
theorem sum_code {i:Ins} (h:(0≤i.op∧i.op≤22)∧(0≤i.a∧i.a<8)∧(0≤i.b∧i.b<8)∧(0≤i.c∧i.c<8)∧ -2147483648≤i.im∧i.im≤2147483647) (m:Int) (hm:m % 4294967296=i.im % 4294967296):
 IntKind.u64.wrap (IntKind.u64.wrap (IntKind.u64.wrap (IntKind.u64.wrap (IntKind.u64.wrap i.op+IntKind.u64.wrap (IntKind.u64.wrap i.a*256))+IntKind.u64.wrap (IntKind.u64.wrap i.b*4096))+IntKind.u64.wrap (IntKind.u64.wrap i.c*65536))+IntKind.u64.wrap (IntKind.u64.wrap m*4294967296))=JI i:=by
 simp only [Qgx]
 unfold JI
 omega
theorem sum_code2 {i:Ins} (h:(0≤i.op∧i.op≤22)∧(0≤i.a∧i.a<8)∧(0≤i.b∧i.b<8)∧(0≤i.c∧i.c<8)∧ -2147483648≤i.im∧i.im≤2147483647) (m:Int) (hm:m % 4294967296=i.im % 4294967296):
 IntKind.u64.wrap (IntKind.u64.wrap (IntKind.u64.wrap (IntKind.u64.wrap (IntKind.u64.wrap i.op+IntKind.u64.wrap (IntKind.u64.wrap i.a*256))+IntKind.u64.wrap (IntKind.u64.wrap i.b*4096))+IntKind.u64.wrap (IntKind.u64.wrap i.c*65536))+IntKind.u64.wrap (m*4294967296))=JI i:=by
 simp only [Qgx]
 unfold JI
 omega
theorem rencode (i:Ins) (h:YF i=true) (w:World):Calls Tryz.prog 48 #[.agg (insc i)] w fun e w'=>e=.returned (.tuple #[.int .u64 (JI i),.int .i64 0])∧Chg [] w w':=by
 have ⟨h1,h2,h3,h4,h5⟩:=Zw h
 have hx:(w.alloc (.cells (insc i) 68)).heap[w.heap.size]? =some (.cells (insc i) 68 (0,0)):=by simp
 have HC:=Vh ((Chg.refl [] w).alloc (.cells (insc i) 68))
 have HG:=Vh (fun w=>rgood_all i h w)
 have HB:=Vh (show (0≤i.op∧i.op≤22)∧(0≤i.a∧i.a<8)∧(0≤i.b∧i.b<8)∧(0≤i.c∧i.c<8)∧ -2147483648≤i.im∧i.im≤2147483647 from ⟨h1,h2,h3,h4,h5⟩)
 have k1: -2147483648≤i.im:=h5.1
 have k2:i.im≤2147483647:=h5.2
 clear h h1 h2 h3 h4 h5
 cases hn:decide (i.im<0)
 all_goals
  go_enter Tryz.func48,Tryz.ntmps48
  go_wp2_with fail
  generalize hw1:w.alloc (.cells (insc i) 68)=w1 at hx HC ⊢
  generalize hz:w.heap.size=p at hx ⊢
  refine (HG.out w1).mono ?_
  rintro e w2 ⟨rfl,rfl⟩
  have hx2:=((Chg.refl [] w1).alloc (.cells (insc i) 68)).keep hx (by simp)
  have HC2:=Vh (HC.out.alloc (.cells (insc i) 68))
  have ox:=old hx
  clear hw1 hz
  go_wp2_with fail
  go_ret2
  refine ⟨?_,HC2.out⟩
  first
   |(rw [sum_code HB.out i.im rfl];rfl)
   |(rw [sum_code2 HB.out (i.im+4294967296) (by omega)];rfl)
end
end Go.Proofs.YtcgjofbkcgedfaaGreatDoor
namespace Go.Proofs.YtcgjofbkcgedfaaGreatDoor
open Go.RowKit
set_option linter.unusedVariables false
set_option maxHeartbeats 1000000
set_option maxRecDepth 100000
attribute [local go_sem ↓] Qv QF Qy QO QE Qs Qk Qh heap_alloc Ql heap_setCell Qc Yq Xu Xg ZP YD XA YC Xz Yi Yh Yd Ye Yf Xh XW XV XU Xj YK YL YJ YG YH YX YT XE YV YW YU YS
attribute [local go_sem] Qb Qa Qd Qi Qe Qg Qf QB Qw QN QL QM Q5 QK QA Qr QD QW QJ Qq QC Qp Qj Qo Qn Yc Xf YB Q8 Xv Xw JT Yg ZZ ZY ZX ZW Yn Ym Yj Yk Yl QG ZQ Xi ZR XT Zc XB YI XC Qad Xa Z9 Z8 Z7 Z6 YP YQ YO YM YN Z3 QY QZ QX QP Qt Zk
attribute [local simp ↓] Qk Qh heap_alloc Ql heap_setCell Qc
attribute [local simp] Qb Qa Qd Qi Qe Qg Qf Qr Qj Qo Qn Q8 QG Zc QY QZ QX QP Qt QD
attribute [local go_sem ↓] Qh
section
def uenc (x:Int):List Value:=[.int .u64 x]
theorem uenc_len (x:Int):(uenc x).length=1:=rfl
theorem uenc_one (x:Int):∀v∈uenc x,v.oneCell'=true:=by intro v hv;simp only [uenc,List.mem_singleton] at hv;subst hv;rfl
theorem cat_uenc (xs:List Int):cat uenc xs=xs.map (Value.int .u64):=by
 induction xs with
 |nil=>rfl
 |cons x xs ih=>rw [XY,ih];rfl
theorem u_info:(Tryz.prog.info? 46).map (fun i=>(i.zero,i.size,i.bytes))=some (some (.int .u64 0),1,8):=by kernel_rfl
theorem eltU:Elt Tryz.prog 26 46 1 8 (.int .u64 0) uenc where
 slice:=Tryz.underlying26
 info:=u_info
 zero:=rfl
 zone:=by intro v hv;simp [Value.cells] at hv;subst hv;rfl
 pos:=by omega
 len:=uenc_len
 one:=uenc_one
theorem rcode {w:World} {q:Nat} {A:Option Addr} {n cap:Nat} {is:List Ins} (hs:Sl w 5 A n (cat Ins.enc is)) (hn:is.length=n) (h5:n≤5000) (hg:∀i∈is,YF i=true) (hq:Old w q):
 Calls Tryz.prog 28 #[.slice A n cap] w fun e w'=>∃be A' c',e=.returned (.slice A' n c')∧Vec 1 46 uenc w' q be A' c' (is.map JI)∧(be=q∨w.heap.size≤be)∧Chg [] w w':=by
 have HS:=Vh hs
 have HN:=Vh hn
 have HG:=Vh hg
 have HQ:=Vh hq
 have H5:=Vh h5
 have hl5:(n:Int)≤5000:=by omega
 clear hs hn hg hq h5
 go_enter Tryz.func28,Tryz.ntmps28
 go_wp2_with fail
 go_loopw [3,4] (fun o i wr=>∃(k be cap':Nat) (A':Option Addr),k≤n∧i=.int .i64 k∧o=.slice A' k cap'∧Vec 1 46 uenc wr q be A' cap' ((is.take k).map JI)∧(be=q∨w.heap.size≤be)∧Chg [] w wr) (fun _ i _=>n-(intOf i).toNat)
 case atStart=>exact ⟨0,q,0,none,by omega,rfl,rfl,Vec.nil ..,.inl rfl,Chg.refl _ _⟩
 case round=>
  obtain ⟨k,be,cap',A',hk,rfl,rfl,hv,hbe,hc⟩:=hrel
  have HV:=Vh hv
  have HBE:=Vh hbe
  have HC:=Vh hc
  clear hv hbe hc
  by_cases hlt:k<n
  ·obtain ⟨x,hx⟩:∃x,is[k]? =some x:=⟨is[k]'(by rw [HN.out];exact hlt),List.getElem?_eq_getElem _⟩
   have HX:=Vh hx
   have HLT:=Vh hlt
   have HGX:=Vh (HG.out x (List.mem_of_getElem? hx))
   have g1:(k:Int)<(n:Int):=by omega
   have g0:(0:Int)≤(k:Int):=by omega
   obtain ⟨b0,o0,hA⟩:=HS.out.addr (by omega)
   subst hA
   obtain ⟨cA,tA,fA,hA,_,hpart⟩:=HS.out.elem (by omega) hlt (Ju Ins.len hx)
   obtain ⟨hin,hpt⟩:=hpart 0 5 (by omega)
   have hAr:=HC.out.keep hA (by simp)
   have oA:=old hAr
   rw [Nat.add_zero] at hin hpt
   rw [show ((Ins.enc x).drop 0 |>.take 5).toArray=insc x from rfl] at hpt
   clear hx hlt hA hpart
   go_wp2_with fail
   refine (rencode x HGX.out _).mono ?_
   rintro e w1 ⟨rfl,c1⟩
   have c2:Chg [] wr (w1.alloc (.cells #[.int .u64 (JI x)] 46)):=c1.alloc _
   have hb2:(w1.alloc (.cells #[.int .u64 (JI x)] 46)).heap[w1.heap.size]? =some (.cells #[.int .u64 (JI x)] 46 (0,0)):=by simp
   have hsl:Sl (w1.alloc (.cells #[.int .u64 (JI x)] 46)) 1 (some ⟨w1.heap.size,0,none⟩) 1 (cat uenc [JI x]):=⟨rfl,.inr ⟨w1.heap.size,0,_,_,(0,0),rfl,hb2,rfl⟩⟩
   have htk:((is.take k).map JI).length=k:=by simp;have:=HN.out;omega
   obtain ⟨be',cp,A2,w2,happ,hv2,hbe2,hc2⟩:=Vec.acc (ty:=26) eltU (w0:=w) (HC.out.trans c2) (HV.out.keep c2 (by simp)) HBE.out HQ.out hsl (c:=1) rfl (by rw [htk];have:=H5.out;omega) (by rw [htk];have:=H5.out;simp only [maxLen];omega)
   rw [htk] at happ
   have HV2:=Vh hv2
   have HBE2:=Vh hbe2
   have HC2:=Vh hc2
   clear hv2 hbe2 hc2 hsl hb2 c1 c2
   go_wp2_with fail
   refine ⟨⟨k+1,be',cp,A2,by have:=HLT.out;omega,by go_num,rfl,?_,HBE2.out,HC2.out⟩,?_⟩
   ·have:=HV2.out
    obtain ⟨hk1,hk2⟩:=Vg HX.out
    rw [List.take_succ_eq_append_getElem hk1,List.map_append,hk2]
    exact this
   ·have:=HLT.out
    simp [intOf]
    omega
  ·have:k=n:=by omega
   subst this
   go_wp2_with fail
   go_ret
   refine ⟨be,A',cap',rfl,?_,HBE.out,HC.out⟩
   have:=HV.out
   rw [List.take_of_length_le (by rw [HN.out];exact Nat.le_refl _)] at this
   exact this
end
section
def noAlu (Q:Co):Prop:=∀u r,Q.pr[Q.pc]? =some (u,r)→decB u=true→(Qz u).op<2∨7<(Qz u).op
theorem xexec {W w:World} {c:Cg} {sy n:Nat} {F:List Nat} {S:Mst} {cur:Nat→List Int} {kb pb qb:Nat} {Q:Co} (h:CS W w c sy F S kb pb qb Q) (hI:Inv c n S cur) (hN:NN cur) (hn:n+1≤1000000000) (hR:Roomy c S) (hR2:∀li wo,Roomy c (loadM c S Q.id li wo).1) (hT:Tab W) (hA:noAlu Q):
 Calls Tryz.prog 87 #[.pointer (some ⟨kb,0,none⟩),.pointer (some ⟨sy,0,none⟩)] w (CSTo W w c sy F kb pb qb (Qcg c S Q).S (Qcg c S Q).Q (Qcg c S Q).ev):=by
 unfold Qcg
 cases hru:Q.ru
 ·exact xexec_off h hru sy
 rw [if_pos rfl]
 cases hx:Q.pr[Q.pc]? with
 |none=>exact xexec_end h hru (by rw [List.getElem?_eq_none_iff] at hx;exact hx) sy
 |some x=>
  obtain ⟨u,r⟩:=x
  dsimp only
  cases hd:decB u
  ·exact xexec_bad h hI hN hn hR hR2 hT hru hx hd
  rw [if_pos rfl]
  have hg:YF (Qz u)=true:=by unfold decB at hd;rw [Bool.and_eq_true] at hd;exact hd.1
  have hr:=(Zw hg).1
  have ha:=hA u r hx hd
  have hop:(Qz u).op=0∨(Qz u).op=1∨(Qz u).op=8∨(Qz u).op=9∨(Qz u).op=10∨(Qz u).op=11∨(Qz u).op=12∨(Qz u).op=13∨(Qz u).op=14∨(Qz u).op=15∨(Qz u).op=16∨(Qz u).op=17∨(Qz u).op=18∨(Qz u).op=19∨(Qz u).op=20∨(Qz u).op=21∨(Qz u).op=22:=by omega
  unfold insC
  rcases hop with hk|hk|hk|hk|hk|hk|hk|hk|hk|hk|hk|hk|hk|hk|hk|hk|hk
  ·rw [if_pos hk]
   exact xexec_0 h hI hN hn hR hR2 hT hru hx hd hk
  ·rw [if_neg (by omega),if_pos hk]
   exact xexec_1 h hI hN hn hR hR2 hT hru hx hd hk
  ·rw [if_neg (by omega),if_neg (by omega),if_neg (by omega),if_neg (by omega),if_neg (by omega),if_neg (by omega),if_neg (by omega)]
   exact xexec_8 h hI hN hn hR hR2 hT hru hx hd hk
  ·rw [if_neg (by omega),if_neg (by omega),if_neg (by omega),if_neg (by omega),if_neg (by omega),if_neg (by omega),if_neg (by omega)]
   exact xexec_9 h hI hN hn hR hR2 hT hru hx hd hk
  ·rw [if_neg (by omega),if_neg (by omega),if_neg (by omega),if_neg (by omega),if_neg (by omega),if_neg (by omega),if_neg (by omega)]
   exact xexec_10 h hI hN hn hR hR2 hT hru hx hd hk
  ·rw [if_neg (by omega),if_neg (by omega),if_neg (by omega),if_neg (by omega),if_neg (by omega),if_neg (by omega),if_neg (by omega)]
   exact xexec_11 h hI hN hn hR hR2 hT hru hx hd hk
  ·rw [if_neg (by omega),if_neg (by omega),if_neg (by omega),if_neg (by omega),if_neg (by omega),if_neg (by omega),if_neg (by omega)]
   exact xexec_12 h hI hN hn hR hR2 hT hru hx hd hk
  ·rw [if_neg (by omega),if_neg (by omega),if_neg (by omega),if_neg (by omega),if_neg (by omega),if_neg (by omega),if_neg (by omega)]
   exact xexec_13 h hI hN hn hR hR2 hT hru hx hd hk
  ·rw [if_neg (by omega),if_neg (by omega),if_neg (by omega),if_neg (by omega),if_neg (by omega),if_neg (by omega),if_neg (by omega)]
   exact xexec_14 h hI hN hn hR hR2 hT hru hx hd hk
  ·rw [if_neg (by omega),if_neg (by omega),if_neg (by omega),if_neg (by omega),if_neg (by omega),if_neg (by omega),if_pos (by omega)]
   have e:=xexec_15 h hI hN hn hR hR2 hT hru hx hd hk
   split
   ·rename_i hs;rw [if_pos hs,if_pos hs] at e;exact e
   ·rename_i hs;rw [if_neg hs,if_neg hs] at e;exact e
  ·rw [if_neg (by omega),if_neg (by omega),if_neg (by omega),if_neg (by omega),if_neg (by omega),if_neg (by omega),if_pos (by omega)]
   have e:=xexec_16 h hI hN hn hR hR2 hT hru hx hd hk
   split
   ·rename_i hs;rw [if_pos hs,if_pos hs] at e;exact e
   ·rename_i hs;rw [if_neg hs,if_neg hs] at e;exact e
  ·rw [if_neg (by omega),if_neg (by omega),if_neg (by omega),if_pos (by omega)]
   exact xexec_17 h hI hN hn hR hR2 hT hru hx hd hk
  ·rw [if_neg (by omega),if_neg (by omega),if_neg (by omega),if_pos (by omega)]
   exact xexec_18 h hI hN hn hR hR2 hT hru hx hd hk
  ·rw [if_neg (by omega),if_neg (by omega),if_neg (by omega),if_pos (by omega)]
   exact xexec_19 h hI hN hn hR hR2 hT hru hx hd hk
  ·rw [if_neg (by omega),if_neg (by omega),if_neg (by omega),if_pos (by omega)]
   exact xexec_20 h hI hN hn hR hR2 hT hru hx hd hk
  ·rw [if_neg (by omega),if_neg (by omega),if_neg (by omega),if_neg (by omega),if_pos hk]
   exact xexec_21 h hI hN hn hR hR2 hT hru hx hd hk
  ·rw [if_neg (by omega),if_neg (by omega),if_neg (by omega),if_neg (by omega),if_neg (by omega),if_pos hk]
   exact xexec_22 h hI hN hn hR hR2 hT hru hx hd hk
theorem EvV.none {w:World} {B kb:Nat} {F:List Nat} {v:Value} (h:EvV w B kb F v []):∃A cap,v=.slice A 0 cap:=by
 obtain ⟨A,cap,be,rfl,_⟩:=h
 exact ⟨A,cap,rfl⟩
end
section
theorem yexec {W w:World} {c:Cg} {sy n:Nat} {F:List Nat} {S:Mst} {cur:Nat→List Int} {kb pb qb:Nat} {Q:Co} (h:CS W w c sy F S kb pb qb Q) (hI:Inv c n S cur) (hN:NN cur) (hn:n+1≤1000000000) (hR:Roomy c S) (hR2:∀li wo,Roomy c (loadM c S Q.id li wo).1) (hT:Tab W):
 Calls Tryz.prog 87 #[.pointer (some ⟨kb,0,none⟩),.pointer (some ⟨sy,0,none⟩)] w (CSTo W w c sy F kb pb qb (Qcg c S Q).S (Qcg c S Q).Q (Qcg c S Q).ev):=by
 by_cases hA:noAlu Q
 ·exact xexec h hI hN hn hR hR2 hT hA
 ·unfold noAlu at hA
  simp only [Classical.not_forall] at hA
  obtain ⟨u,r,hx,hd,hop⟩:=hA
  have h2:2≤(Qz u).op∧(Qz u).op≤7:=by omega
  cases hru:Q.ru
  ·unfold Qcg
   rw [hru]
   exact xexec_off h hru sy
  have e:Qcg c S Q=⟨S,Yo (setR (QI Q u) (Qz u).a (doV (Qz u).op (regA (QI Q u) (Qz u).b) (regA (QI Q u) (Qz u).c))),[]⟩:=by
   unfold Qcg
   rw [hru,if_pos rfl,hx]
   dsimp only
   rw [if_pos hd]
   unfold insC
   rw [if_neg (by omega),if_neg (by omega),if_pos h2.2]
  rw [e]
  rcases (show (Qz u).op=2∨(Qz u).op=3∨(Qz u).op=4∨(Qz u).op=5∨(Qz u).op=6∨(Qz u).op=7 by omega) with hk|hk|hk|hk|hk|hk
  ·exact xexec_2 h hI hN hn hR hR2 hT hru hx hd hk
  ·exact xexec_3 h hI hN hn hR hR2 hT hru hx hd hk
  ·exact xexec_4 h hI hN hn hR hR2 hT hru hx hd hk
  ·exact xexec_5 h hI hN hn hR hR2 hT hru hx hd hk
  ·exact xexec_6 h hI hN hn hR hR2 hT hru hx hd hk
  ·exact xexec_7 h hI hN hn hR hR2 hT hru hx hd hk
end
end Go.Proofs.YtcgjofbkcgedfaaGreatDoor
namespace Go.Proofs.YtcgjofbkcgedfaaGreatDoor
open Go.RowKit
set_option linter.unusedVariables false
set_option maxHeartbeats 1000000
section
structure Ac where
 kd:Int
 co:Int
 li:Int
deriving DecidableEq
def Ac.enc (a:Ac):List Value:=[.int .i64 a.kd,.int .i64 a.co,.int .i64 a.li]
def acc (a:Ac):Array Value:=(Ac.enc a).toArray
theorem Ac.len (a:Ac):(Ac.enc a).length=3:=rfl
theorem Ac.one (a:Ac):∀v∈Ac.enc a,v.oneCell'=true:=by
 intro v hv
 simp only [Ac.enc,List.mem_cons,Vn,or_false] at hv
 rcases hv with rfl|rfl|rfl<;>rfl
theorem ZU (a:Ac):(acc a).size=3:=by simp [acc,Ac.enc]
theorem JX (a:Ac):J6 (acc a):=Qp _ (List.all_eq_true.2 (Ac.one a))
theorem Qca (a:Ac):(acc a)[0]? =some (.int .i64 a.kd):=rfl
theorem Qcb (a:Ac):(acc a)[1]? =some (.int .i64 a.co):=rfl
theorem Qb9 (a:Ac):(acc a)[2]? =some (.int .i64 a.li):=rfl
theorem JY (k c l:Int):(#[.int .i64 k,.int .i64 c,.int .i64 l]:Array Value)=acc ⟨k,c,l⟩:=rfl
theorem Qb8 (a:Ac):(acc a=#[])=False:=eq_false (fun h=>by have:=congrArg Array.size h;rw [ZU] at this;cases this)
theorem Y2 (C:Array Value) (a:Ac) (h:C.size=3):Array.foldl (fun cs y=>cs.setIfInBounds y.snd y.fst) C (acc a).zipIdx 0 3=acc a:=Qd7 _ _ _ (ZU a) h
theorem Qbt:Wide Tryz.prog 44 3:=⟨⟨_,Tryz.underlying44,by rfl⟩,by kernel_rfl⟩
theorem Qbz (x:Value):Instr.loadAt 44 x=Qda 44 3 x:=rfl
theorem J9 (x y:Value):Instr.storeAt 44 x y=Qag 44 3 x y:=rfl
section
variable (sy cb n:Nat) (RA:Option Addr) (rn rc fa:Nat)
theorem Qbv:(mcc sy cb n RA rn rc fa)[0]? =some (.pointer (some ⟨sy,0,none⟩)):=rfl
theorem Qby:(mcc sy cb n RA rn rc fa)[1]? =some (.slice (some ⟨cb,0,none⟩) n n):=rfl
theorem Qbw:(mcc sy cb n RA rn rc fa)[2]? =some (.slice RA rn rc):=rfl
theorem Qbx:(mcc sy cb n RA rn rc fa)[3]? =some (.int .i64 (fa:Int)):=rfl
theorem Xd:(mcc sy cb n RA rn rc fa).size=4:=rfl
end
set_option maxRecDepth 100000
attribute [local go_sem ↓] Qv QF Qy QO QE Qs Qk Qh heap_alloc Ql heap_setCell Qc Yq Xu Xg ZP YD XA YC Xz Yi Yh Yd Ye Yf Xh XW XV XU Xj YK YL YJ YG YH YX YT XE YV YW YU YS Qbz J9 Qca Qcb Qb9 Qbv Qby Qbw Qbx
attribute [local go_sem] Qb Qa Qd Qi Qe Qg Qf QB Qw QN QL QM Q5 QK QA Qr QD QW QJ Qq QC Qp Qj Qo Qn Yc Xf YB Q8 Xv Xw JT Yg ZZ ZY ZX ZW Yn Ym Yj Yk Yl QG ZQ Xi ZR XT Zc XB YI XC Qad Xa Z9 Z8 Z7 Z6 YP YQ YO YM YN Z3 QY QZ QX QP Qt Zk Qbt ZU JX Qb8 JY Y2 Xd
attribute [local simp ↓] Qk Qh heap_alloc Ql heap_setCell Qc
attribute [local simp] Qb Qa Qd Qi Qe Qg Qf Qr Qj Qo Qn Q8 QG Zc QY QZ QX QP Qt QD ZU Xd
attribute [local go_sem ↓] Qh
theorem msystem_nil (w:World):Calls Tryz.prog 21 #[.pointer none] w fun e w'=>e=.returned (.pointer none)∧w=w':=by
 go_enter Tryz.func21,Tryz.ntmps21
 go_wp2_with fail
 go_ret
 exact ⟨rfl,rfl⟩
theorem mcore_nil (k:Int) (w:World):Calls Tryz.prog 26 #[.pointer none,.int .i64 k] w fun e w'=>e=.returned (.pointer none)∧w=w':=by
 go_enter Tryz.func26,Tryz.ntmps26
 go_wp2_with fail
 go_ret
 exact ⟨rfl,rfl⟩
theorem mfails_nil (w:World):Calls Tryz.prog 27 #[.pointer none] w fun e w'=>e=.returned (.int .i64 0)∧w=w':=by
 go_enter Tryz.func27,Tryz.ntmps27
 go_wp2_with fail
 go_ret
 exact ⟨rfl,rfl⟩
theorem mquiet_nil (w:World):Calls Tryz.prog 23 #[.pointer none] w fun e w'=>e=.returned (.bool false)∧w=w':=by
 go_enter Tryz.func23,Tryz.ntmps23
 go_wp2_with fail
 go_ret
 exact ⟨rfl,rfl⟩
theorem mpushed (li:Int) (w:World):Calls Tryz.prog 94 #[.int .i64 li] w fun e w'=>e=.returned (.slice (some ⟨w.heap.size,0,none⟩) 1 1)∧w'=w.alloc (.cells (evc (evPush li)) 48):=by
 go_enter Tryz.func94,Tryz.ntmps94
 go_wp2_with fail
 go_ret
 exact ⟨rfl,rfl⟩
section
variable {W w:World} {c:Cg} {mp cb sy n:Nat} {F:List Nat} {ks:List Kp} {RA:Option Addr} {rcap:Nat} {M:Mac} {cur:Nat→List Int} (h:MaM W w c mp cb sy F ks RA rcap M)
include h
theorem msystem:Calls Tryz.prog 21 #[.pointer (some ⟨mp,0,none⟩)] w fun e w'=>e=.returned (.pointer (some ⟨sy,0,none⟩))∧w=w':=by
 have ho:=h.own
 have oo:=old ho
 clear h
 go_enter Tryz.func21,Tryz.ntmps21
 go_wp2_with fail
 go_ret
 exact ⟨rfl,rfl⟩
theorem mfails:Calls Tryz.prog 27 #[.pointer (some ⟨mp,0,none⟩)] w fun e w'=>e=.returned (.int .i64 (M.fa:Int))∧w=w':=by
 have ho:=h.own
 have oo:=old ho
 clear h
 go_enter Tryz.func27,Tryz.ntmps27
 go_wp2_with fail
 go_ret
 exact ⟨rfl,rfl⟩
theorem Qe8 {k:Int} (hk:inB k c.co=false):Calls Tryz.prog 26 #[.pointer (some ⟨mp,0,none⟩),.int .i64 k] w fun e w'=>e=.returned (.pointer none)∧w'=w:=by
 have ho:=h.own
 have oo:=old ho
 clear h
 have hb:k<0∨((c.co:Nat):Int)≤k:=by
  by_cases h0:0≤k
  ·by_cases h1:k<(c.co:Int)
   ·rw [X3.2 ⟨h0,h1⟩] at hk;cases hk
   ·omega
  ·omega
 by_cases h0:k<0
 ·go_enter Tryz.func26,Tryz.ntmps26
  go_wp2_with fail
  go_ret
  exact ⟨rfl,rfl⟩
 ·have h1:((c.co:Nat):Int)≤k:=by omega
  go_enter Tryz.func26,Tryz.ntmps26
  go_wp2_with fail
  go_ret
  exact ⟨rfl,rfl⟩
theorem Qe9 {j:Nat} {p:Kp} (hp:ks[j]? =some p):Calls Tryz.prog 26 #[.pointer (some ⟨mp,0,none⟩),.int .i64 (j:Int)] w fun e w'=>e=.returned (.pointer (some ⟨p.kb,0,none⟩))∧w'=w:=by
 have ho:=h.own
 have oo:=old ho
 have hc:=h.cors
 have oc:=old hc
 have hj:j<c.co:=by rw [←h.kl];exact (Vg hp).1
 have hat:(sq pke ks [])[j]? =some (.pointer (some ⟨p.kb,0,none⟩)):=by
  have:=JM pke_len hp [] 0 (by omega)
  simpa [pke] using this
 have g0:(0:Int)≤(j:Int):=by omega
 have g1:(j:Int)<((c.co:Nat):Int):=by omega
 clear h hp hj
 go_enter Tryz.func26,Tryz.ntmps26
 go_wp2_with fail
 go_ret
 exact ⟨rfl,rfl⟩
end
end
section
set_option maxRecDepth 100000
attribute [local go_sem ↓] Qv QF Qy QO QE Qs Qk Qh heap_alloc Ql heap_setCell Qc Yq Xu Xg ZP YD XA YC Xz Yi Yh Yd Ye Yf Xh XW XV XU Xj YK YL YJ YG YH YX YT XE YV YW YU YS Qbz J9 Qca Qcb Qb9 Qbv Qby Qbw Qbx
attribute [local go_sem] Qb Qa Qd Qi Qe Qg Qf QB Qw QN QL QM Q5 QK QA Qr QD QW QJ Qq QC Qp Qj Qo Qn Yc Xf YB Q8 Xv Xw JT Yg ZZ ZY ZX ZW Yn Ym Yj Yk Yl QG ZQ Xi ZR XT Zc XB YI XC Qad Xa Z9 Z8 Z7 Z6 YP YQ YO YM YN Z3 QY QZ QX QP Qt Zk Qbt ZU JX Qb8 JY Y2 Xd
attribute [local simp ↓] Qk Qh heap_alloc Ql heap_setCell Qc
attribute [local simp] Qb Qa Qd Qi Qe Qg Qf Qr Qj Qo Qn Q8 QG Zc QY QZ QX QP Qt QD ZU Xd
attribute [local go_sem ↓] Qh
theorem DoTo.from {W w w1:World} {c:Cg} {mp:Nat} {RA:Option Addr} {rcap:Nat} {Ft:List Nat} {r:Mac×List Ev} {e:Ending} {w':World} (hc:Chg [] w w1) (h:DoTo W w1 c mp RA rcap Ft r e w'):DoTo W w c mp RA rcap Ft r e w':=by
 obtain ⟨v,Ft',he,⟨A,cap,h1,h2,h3⟩,hm,hch,hF⟩:=h
 have hs:=hc.size
 refine ⟨v,Ft',he,⟨A,cap,h1,h2,fun h0 a ha=>⟨Nat.le_trans hs (h3 h0 a ha).1,(h3 h0 a ha).2⟩⟩,hm,(hc.mono (by simp)).trans hch,fun b hb=>?_⟩
 rcases hF b hb with h4|h4
 ·exact .inl h4
 ·exact .inr (Nat.le_trans hs h4)
theorem core_no {M:Mac} {c:Cg} {k:Int} (hl:M.cs.length=c.co) (hc:Qfp M k=none):inB k c.co=false:=by
 unfold Qfp at hc
 rw [hl] at hc
 cases hb:inB k c.co
 ·rfl
 ·rw [if_pos hb] at hc
  have:=X3.1 hb
  rw [List.getElem?_eq_getElem (by omega)] at hc
  cases hc
section
variable {W w:World} {c:Cg} {mp cb sy n:Nat} {F:List Nat} {ks:List Kp} {RA:Option Addr} {rcap:Nat} {M:Mac} {cur:Nat→List Int} (h:MaM W w c mp cb sy F ks RA rcap M) (hI:MI c n M cur) (hn:n+1≤1000000000) (hT:Tabs W)
include h hI hn hT
theorem aexec (a:Ac):Calls Tryz.prog 57 #[.pointer (some ⟨mp,0,none⟩),.agg (acc a)] w (DoTo W w c mp RA rcap (mp::cb::(Xn ks++F)) (execA c M a.co)):=by
 have ha1:(w.alloc (.cells (acc a) 44)).heap[w.heap.size]? =some (.cells (acc a) 44 (0,0)):=by simp
 have c1:Chg [] w (w.alloc (.cells (acc a) 44)):=(Chg.refl [] w).alloc _
 have H1:=Vh (h.keep0 c1)
 have hm1:=H1.out.own
 have C1:=Vh c1
 have HI:=Vh hI
 have HT:=Vh hT
 have HN:=Vh hn
 have HCL:=Vh h.cl
 clear h hI hT hn c1
 unfold execA
 cases hc:Qfp M a.co with
 |none=>
  have HNO:=Vh (core_no HCL.out hc)
  clear hc
  go_enter Tryz.func57,Tryz.ntmps57
  go_wp2_with fail
  generalize hw1:w.alloc (.cells (acc a) 44)=w1 at *
  generalize hp1:w.heap.size=p1 at *
  clear hw1 hp1
  have om1:=old hm1
  have oa1:=old ha1
  go_still_tail 8,(by kernel_rfl)
  still_call (Qe8 (H1.out.keep0 ((Chg.refl [] w1).drew)) HNO.out)
  repeat still_step
  try refine wpStill_nil ?_
  change wpList _ _ _ _ _ w1.drew
  have C2:=Vh (C1.out.trans ((Chg.refl [] w1).drew))
  have H2:=Vh (H1.out.keep0 ((Chg.refl [] w1).drew))
  have ha2:w1.drew.heap[p1]? =some (.cells (acc a) 44 (0,0)):=ha1
  clear ha1 hm1 H1 C1 om1 oa1
  generalize w1.drew=w2 at *
  go_wp2_with fail
  refine (cexec_nil w2 _).mono ?_
  rintro e w3 ⟨rfl,rfl⟩
  go_wp2_with fail
  go_ret
  exact DoTo.from C2.out (H2.out.stayDo (Chg.refl [] _))
 |some Q=>
  obtain ⟨j,hj,hjc,hQ,hid⟩:=HI.out.at hc
  obtain ⟨p,Q',hp,hQ'⟩:=H1.out.kAt hjc
  rw [hQ] at hQ'
  cases hQ'
  clear hc
  have HQ:=Vh hQ
  have HP:=Vh hp
  have HJ:=Vh hj
  clear hQ hp hid hjc hj
  go_enter Tryz.func57,Tryz.ntmps57
  go_wp2_with fail
  generalize hw1:w.alloc (.cells (acc a) 44)=w1 at *
  generalize hp1:w.heap.size=p1 at *
  clear hw1 hp1
  have om1:=old hm1
  have oa1:=old ha1
  go_still_tail 8,(by kernel_rfl)
  rw [HJ.out]
  still_call (Qe9 (H1.out.keep0 ((Chg.refl [] w1).drew)) HP.out)
  repeat still_step
  try refine wpStill_nil ?_
  change wpList _ _ _ _ _ w1.drew
  have C2:=Vh (C1.out.trans ((Chg.refl [] w1).drew))
  have H2:=Vh (H1.out.keep0 ((Chg.refl [] w1).drew))
  have ha2:w1.drew.heap[p1]? =some (.cells (acc a) 44 (0,0)):=ha1
  clear ha1 hm1 H1 C1 om1 oa1
  generalize w1.drew=w2 at *
  go_wp2_with fail
  have hp:=HP.out
  have hQ:=HQ.out
  refine (yexec (H2.out.cs hp hQ) HI.out.inv HI.out.nn HN.out HI.out.roomy (HI.out.roomyLoad _) HT.out.1).mono ?_
  rintro e w3 hd
  have HD:=Vh (H2.out.told hp hQ hd)
  obtain ⟨v,F',rfl,_⟩:=hd
  go_wp2_with fail
  go_ret
  rw [HJ.out]
  exact DoTo.from C2.out HD.out
theorem adrain (a:Ac):Calls Tryz.prog 58 #[.pointer (some ⟨mp,0,none⟩),.agg (acc a)] w (DoTo W w c mp RA rcap (mp::cb::(Xn ks++F)) (Qgt c M a.co)):=by
 have ha1:(w.alloc (.cells (acc a) 44)).heap[w.heap.size]? =some (.cells (acc a) 44 (0,0)):=by simp
 have c1:Chg [] w (w.alloc (.cells (acc a) 44)):=(Chg.refl [] w).alloc _
 have H1:=Vh (h.keep0 c1)
 have hm1:=H1.out.own
 have C1:=Vh c1
 have HI:=Vh hI
 have HT:=Vh hT
 have HN:=Vh hn
 have HCL:=Vh h.cl
 clear h hI hT hn c1
 unfold Qgt
 cases hc:Qfp M a.co with
 |none=>
  have HNO:=Vh (core_no HCL.out hc)
  clear hc
  go_enter Tryz.func58,Tryz.ntmps58
  go_wp2_with fail
  generalize hw1:w.alloc (.cells (acc a) 44)=w1 at *
  generalize hp1:w.heap.size=p1 at *
  clear hw1 hp1
  have om1:=old hm1
  have oa1:=old ha1
  go_still_tail 8,(by kernel_rfl)
  still_call (Qe8 (H1.out.keep0 ((Chg.refl [] w1).drew)) HNO.out)
  repeat still_step
  try refine wpStill_nil ?_
  change wpList _ _ _ _ _ w1.drew
  have C2:=Vh (C1.out.trans ((Chg.refl [] w1).drew))
  have H2:=Vh (H1.out.keep0 ((Chg.refl [] w1).drew))
  have ha2:w1.drew.heap[p1]? =some (.cells (acc a) 44 (0,0)):=ha1
  clear ha1 hm1 H1 C1 om1 oa1
  generalize w1.drew=w2 at *
  go_wp2_with fail
  refine (cdrain_nil w2 _).mono ?_
  rintro e w3 ⟨rfl,rfl⟩
  go_wp2_with fail
  go_ret
  exact DoTo.from C2.out (H2.out.stayDo (Chg.refl [] _))
 |some Q=>
  obtain ⟨j,hj,hjc,hQ,hid⟩:=HI.out.at hc
  obtain ⟨p,Q',hp,hQ'⟩:=H1.out.kAt hjc
  rw [hQ] at hQ'
  cases hQ'
  clear hc
  have HQ:=Vh hQ
  have HP:=Vh hp
  have HJ:=Vh hj
  clear hQ hp hid hjc hj
  go_enter Tryz.func58,Tryz.ntmps58
  go_wp2_with fail
  generalize hw1:w.alloc (.cells (acc a) 44)=w1 at *
  generalize hp1:w.heap.size=p1 at *
  clear hw1 hp1
  have om1:=old hm1
  have oa1:=old ha1
  go_still_tail 8,(by kernel_rfl)
  rw [HJ.out]
  still_call (Qe9 (H1.out.keep0 ((Chg.refl [] w1).drew)) HP.out)
  repeat still_step
  try refine wpStill_nil ?_
  change wpList _ _ _ _ _ w1.drew
  have C2:=Vh (C1.out.trans ((Chg.refl [] w1).drew))
  have H2:=Vh (H1.out.keep0 ((Chg.refl [] w1).drew))
  have ha2:w1.drew.heap[p1]? =some (.cells (acc a) 44 (0,0)):=ha1
  clear ha1 hm1 H1 C1 om1 oa1
  generalize w1.drew=w2 at *
  go_wp2_with fail
  have hp:=HP.out
  have hQ:=HQ.out
  refine (edrain (H2.out.cs hp hQ) HI.out.inv Cz11 HI.out.roomy HT.out.1).mono ?_
  rintro e w3 hd
  have HD:=Vh (H2.out.told hp hQ hd)
  obtain ⟨v,F',rfl,_⟩:=hd
  go_wp2_with fail
  go_ret
  rw [HJ.out]
  exact DoTo.from C2.out HD.out
theorem aup (a:Ac):Calls Tryz.prog 59 #[.pointer (some ⟨mp,0,none⟩),.agg (acc a)] w (DoTo W w c mp RA rcap (mp::cb::(Xn ks++F)) (M.sys (upM c M.S a.co).1,[])):=by
 have ha1:(w.alloc (.cells (acc a) 44)).heap[w.heap.size]? =some (.cells (acc a) 44 (0,0)):=by simp
 have c1:Chg [] w (w.alloc (.cells (acc a) 44)):=(Chg.refl [] w).alloc _
 have H1:=Vh (h.keep0 c1)
 have hm1:=H1.out.own
 have C1:=Vh c1
 have HI:=Vh hI
 have HT:=Vh hT
 have HN:=Vh hn
 have HCL:=Vh h.cl
 clear h hI hT hn c1
 go_enter Tryz.func59,Tryz.ntmps59
 go_wp2_with fail
 generalize hw1:w.alloc (.cells (acc a) 44)=w1 at *
 generalize hp1:w.heap.size=p1 at *
 clear hw1 hp1
 have om1:=old hm1
 have oa1:=old ha1
 go_still_tail 6,(by kernel_rfl)
 try refine wpStill_nil ?_
 change wpList _ _ _ _ _ w1.drew
 have C2:=Vh (C1.out.trans ((Chg.refl [] w1).drew))
 have H2:=Vh (H1.out.keep0 ((Chg.refl [] w1).drew))
 have ha2:w1.drew.heap[p1]? =some (.cells (acc a) 44 (0,0)):=ha1
 clear ha1 hm1 H1 C1 om1 oa1
 generalize w1.drew=w2 at *
 go_wp2_with fail
 refine (uup H2.out.sys HI.out.inv Cz11 HI.out.roomy HT.out.1 a.co).mono ?_
 rintro e w3 ⟨rfl,hd⟩
 have HD:=Vh (H2.out.sysDo hd)
 clear hd
 go_wp2_with fail
 go_ret
 exact DoTo.from C2.out HD.out
theorem aanswer (a:Ac):Calls Tryz.prog 60 #[.pointer (some ⟨mp,0,none⟩),.agg (acc a)] w (DoTo W w c mp RA rcap (mp::cb::(Xn ks++F)) (M.sys (answerM c M.S a.co).1,[])):=by
 have ha1:(w.alloc (.cells (acc a) 44)).heap[w.heap.size]? =some (.cells (acc a) 44 (0,0)):=by simp
 have c1:Chg [] w (w.alloc (.cells (acc a) 44)):=(Chg.refl [] w).alloc _
 have H1:=Vh (h.keep0 c1)
 have hm1:=H1.out.own
 have C1:=Vh c1
 have HI:=Vh hI
 have HT:=Vh hT
 have HN:=Vh hn
 have HCL:=Vh h.cl
 clear h hI hT hn c1
 go_enter Tryz.func60,Tryz.ntmps60
 go_wp2_with fail
 generalize hw1:w.alloc (.cells (acc a) 44)=w1 at *
 generalize hp1:w.heap.size=p1 at *
 clear hw1 hp1
 have om1:=old hm1
 have oa1:=old ha1
 go_still_tail 6,(by kernel_rfl)
 try refine wpStill_nil ?_
 change wpList _ _ _ _ _ w1.drew
 have C2:=Vh (C1.out.trans ((Chg.refl [] w1).drew))
 have H2:=Vh (H1.out.keep0 ((Chg.refl [] w1).drew))
 have ha2:w1.drew.heap[p1]? =some (.cells (acc a) 44 (0,0)):=ha1
 clear ha1 hm1 H1 C1 om1 oa1
 generalize w1.drew=w2 at *
 go_wp2_with fail
 refine (uanswer H2.out.sys HI.out.inv Cz11 HI.out.roomy HT.out.1 a.co).mono ?_
 rintro e w3 ⟨rfl,hd⟩
 have HD:=Vh (H2.out.sysDo hd)
 clear hd
 go_wp2_with fail
 go_ret
 exact DoTo.from C2.out HD.out
theorem aevict (a:Ac):Calls Tryz.prog 63 #[.pointer (some ⟨mp,0,none⟩),.agg (acc a)] w (DoTo W w c mp RA rcap (mp::cb::(Xn ks++F)) (M.sys (evictM c M.S a.co a.li).1,[])):=by
 have ha1:(w.alloc (.cells (acc a) 44)).heap[w.heap.size]? =some (.cells (acc a) 44 (0,0)):=by simp
 have c1:Chg [] w (w.alloc (.cells (acc a) 44)):=(Chg.refl [] w).alloc _
 have H1:=Vh (h.keep0 c1)
 have hm1:=H1.out.own
 have C1:=Vh c1
 have HI:=Vh hI
 have HT:=Vh hT
 have HN:=Vh hn
 have HCL:=Vh h.cl
 clear h hI hT hn c1
 go_enter Tryz.func63,Tryz.ntmps63
 go_wp2_with fail
 generalize hw1:w.alloc (.cells (acc a) 44)=w1 at *
 generalize hp1:w.heap.size=p1 at *
 clear hw1 hp1
 have om1:=old hm1
 have oa1:=old ha1
 go_still_tail 8,(by kernel_rfl)
 try refine wpStill_nil ?_
 change wpList _ _ _ _ _ w1.drew
 have C2:=Vh (C1.out.trans ((Chg.refl [] w1).drew))
 have H2:=Vh (H1.out.keep0 ((Chg.refl [] w1).drew))
 have ha2:w1.drew.heap[p1]? =some (.cells (acc a) 44 (0,0)):=ha1
 clear ha1 hm1 H1 C1 om1 oa1
 generalize w1.drew=w2 at *
 go_wp2_with fail
 refine (uevict H2.out.sys HI.out.inv Cz11 HI.out.roomy HT.out.1 a.co a.li).mono ?_
 rintro e w3 ⟨rfl,hd⟩
 have HD:=Vh (H2.out.sysDo hd)
 clear hd
 go_wp2_with fail
 go_ret
 exact DoTo.from C2.out HD.out
theorem awrite (a:Ac):Calls Tryz.prog 65 #[.pointer (some ⟨mp,0,none⟩),.agg (acc a)] w (DoTo W w c mp RA rcap (mp::cb::(Xn ks++F)) (M.sys (drainM c M.S a.li).1,[])):=by
 have ha1:(w.alloc (.cells (acc a) 44)).heap[w.heap.size]? =some (.cells (acc a) 44 (0,0)):=by simp
 have c1:Chg [] w (w.alloc (.cells (acc a) 44)):=(Chg.refl [] w).alloc _
 have H1:=Vh (h.keep0 c1)
 have hm1:=H1.out.own
 have C1:=Vh c1
 have HI:=Vh hI
 have HT:=Vh hT
 have HN:=Vh hn
 have HCL:=Vh h.cl
 clear h hI hT hn c1
 go_enter Tryz.func65,Tryz.ntmps65
 go_wp2_with fail
 generalize hw1:w.alloc (.cells (acc a) 44)=w1 at *
 generalize hp1:w.heap.size=p1 at *
 clear hw1 hp1
 have om1:=old hm1
 have oa1:=old ha1
 go_still_tail 6,(by kernel_rfl)
 try refine wpStill_nil ?_
 change wpList _ _ _ _ _ w1.drew
 have C2:=Vh (C1.out.trans ((Chg.refl [] w1).drew))
 have H2:=Vh (H1.out.keep0 ((Chg.refl [] w1).drew))
 have ha2:w1.drew.heap[p1]? =some (.cells (acc a) 44 (0,0)):=ha1
 clear ha1 hm1 H1 C1 om1 oa1
 generalize w1.drew=w2 at *
 go_wp2_with fail
 refine (udrain H2.out.sys HI.out.inv Cz11 HI.out.roomy HT.out.1 a.li).mono ?_
 rintro e w3 ⟨rfl,hd⟩
 have HD:=Vh (H2.out.sysDo hd)
 clear hd
 go_wp2_with fail
 go_ret
 exact DoTo.from C2.out HD.out
end
end
end Go.Proofs.YtcgjofbkcgedfaaGreatDoor
