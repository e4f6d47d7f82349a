/- Texts of the walk, one behind the other: Reb Rec Onc. No condition. -/
import Derived.Test.YtcjoinhngdfdmaaGreatDoorCLal
import Derived.ChangeAlike
import Derived.Defers
import Derived.Laws.LoneSync
import Derived.Laws.NewBlocks
import Derived.Laws.Pointers
import Derived.RegionCalls
import Derived.RegionTactic
import Derived.Tactics
import Derived.Tactics2
namespace Go.Proofs.YtcjoinhngdfdmaaGreatDoor
open Go.RowKit
set_option linter.unusedVariables false
set_option maxHeartbeats 1000000
set_option maxRecDepth 100000
attribute [local go_sem ↓] cell_row frozen_row heap_drew heap_drewN heap_alloc heap_past heap_setCell heap_putRow loadIns storeIns loadPts storePts insc_op insc_a insc_b insc_c insc_im pts_0 pts_1 pts_2 pts_3 pts_4
attribute [local go_sem] rowCell_some rowFrozen_some rowHas_some rowIn_some rowPart_full rowPut_full rowSet_some run_loadS run_storeS loadW_at storeW_at fit_all fit_le one_int one_bool one_pointer one_slice allOne_list putRow_new ne_size1 ne_size2 wideIns widePts insc_size insc_one insc_ne insc_lit insc_z insc_set0 insc_set1 insc_set2 insc_set3 insc_set4 pts_lit pts_size pts_one pts_ne pts_set0 pts_set1 pts_set2 pts_set3 pts_set4
attribute [local simp ↓] heap_drew heap_drewN heap_alloc heap_past heap_setCell heap_putRow
attribute [local simp] rowCell_some rowFrozen_some rowHas_some rowIn_some rowPart_full rowPut_full rowSet_some fit_all putRow_new ne_size1 ne_size2 insc_size pts_size fit_le
attribute [local go_sem] insZ_op insZ_a insZ_b insZ_c insZ_im
section
theorem rgood_0 (w:World):Calls Tryz.prog 75 #[.agg (insc ⟨0,0,0,0,0⟩)] w fun e w'=>e=.returned (.bool true)∧w'=w.alloc (.cells (insc ⟨0,0,0,0,0⟩) 33):=by
 have hx:(w.alloc (.cells (insc ⟨0,0,0,0,0⟩) 33)).heap[w.heap.size]? =some (.cells (insc ⟨0,0,0,0,0⟩) 33 (0,0)):=by simp
 have LA:hasA 0=false:=by decide
 have LB:hasB 0=false:=by decide
 have LC:hasC 0=false:=by decide
 have LI:hasI 0=false:=by decide
 go_enter Tryz.func75,Tryz.ntmps75
 try dsimp only [List.append]
 go_wp2_with (first |(go_at_call 122;(with_reducible refine (rhas_A 0 (by omega) (by omega) _).mono ?_);rintro e w' ⟨rfl,rfl⟩)|(go_at_call 122;(with_reducible refine (rhas_B 0 (by omega) (by omega) _).mono ?_);rintro e w' ⟨rfl,rfl⟩)|(go_at_call 122;(with_reducible refine (rhas_C 0 (by omega) (by omega) _).mono ?_);rintro e w' ⟨rfl,rfl⟩)|(go_at_call 122;(with_reducible refine (rhas_I 0 (by omega) (by omega) _).mono ?_);rintro e w' ⟨rfl,rfl⟩))
 go_ret
 exact ⟨rfl,rfl⟩
theorem rgood_1 (a m:Int) (ha:0≤a∧a<8) (hm: -2147483648≤m∧m≤2147483647) (w:World):Calls Tryz.prog 75 #[.agg (insc ⟨1,a,0,0,m⟩)] w fun e w'=>e=.returned (.bool true)∧w'=w.alloc (.cells (insc ⟨1,a,0,0,m⟩) 33):=by
 have hx:(w.alloc (.cells (insc ⟨1,a,0,0,m⟩) 33)).heap[w.heap.size]? =some (.cells (insc ⟨1,a,0,0,m⟩) 33 (0,0)):=by simp
 have d1a:decide (0≤a)=true:=by simp;omega
 have d2a:decide (a≤7)=true:=by simp;omega
 have Ra:=Lib.hid (fun w=>rreg a w)
 rw [d1a,d2a] at Ra
 have e1:decide (-2147483648≤m)=true:=by simp;omega
 have e2:decide (m<2147483648)=true:=by simp;omega
 have LA:hasA 1=true:=by decide
 have LB:hasB 1=false:=by decide
 have LC:hasC 1=false:=by decide
 have LI:hasI 1=true:=by decide
 clear ha hm
 go_enter Tryz.func75,Tryz.ntmps75
 try dsimp only [List.append]
 go_wp2_with (first |(go_at_call 122;(with_reducible refine (rhas_A 1 (by omega) (by omega) _).mono ?_);rintro e w' ⟨rfl,rfl⟩)|(go_at_call 122;(with_reducible refine (rhas_B 1 (by omega) (by omega) _).mono ?_);rintro e w' ⟨rfl,rfl⟩)|(go_at_call 122;(with_reducible refine (rhas_C 1 (by omega) (by omega) _).mono ?_);rintro e w' ⟨rfl,rfl⟩)|(go_at_call 122;(with_reducible refine (rhas_I 1 (by omega) (by omega) _).mono ?_);rintro e w' ⟨rfl,rfl⟩)|(go_at_call 123;(with_reducible refine (Ra.out _).mono ?_);rintro e w' ⟨rfl,rfl⟩))
 go_ret
 exact ⟨rfl,rfl⟩
theorem rgood_2 (a b c:Int) (ha:0≤a∧a<8) (hb:0≤b∧b<8) (hc:0≤c∧c<8) (w:World):Calls Tryz.prog 75 #[.agg (insc ⟨2,a,b,c,0⟩)] w fun e w'=>e=.returned (.bool true)∧w'=w.alloc (.cells (insc ⟨2,a,b,c,0⟩) 33):=by
 have hx:(w.alloc (.cells (insc ⟨2,a,b,c,0⟩) 33)).heap[w.heap.size]? =some (.cells (insc ⟨2,a,b,c,0⟩) 33 (0,0)):=by simp
 have d1a:decide (0≤a)=true:=by simp;omega
 have d2a:decide (a≤7)=true:=by simp;omega
 have Ra:=Lib.hid (fun w=>rreg a w)
 rw [d1a,d2a] at Ra
 have d1b:decide (0≤b)=true:=by simp;omega
 have d2b:decide (b≤7)=true:=by simp;omega
 have Rb:=Lib.hid (fun w=>rreg b w)
 rw [d1b,d2b] at Rb
 have d1c:decide (0≤c)=true:=by simp;omega
 have d2c:decide (c≤7)=true:=by simp;omega
 have Rc:=Lib.hid (fun w=>rreg c w)
 rw [d1c,d2c] at Rc
 have LA:hasA 2=true:=by decide
 have LB:hasB 2=true:=by decide
 have LC:hasC 2=true:=by decide
 have LI:hasI 2=false:=by decide
 clear ha hb hc
 go_enter Tryz.func75,Tryz.ntmps75
 try dsimp only [List.append]
 go_wp2_with (first |(go_at_call 122;(with_reducible refine (rhas_A 2 (by omega) (by omega) _).mono ?_);rintro e w' ⟨rfl,rfl⟩)|(go_at_call 122;(with_reducible refine (rhas_B 2 (by omega) (by omega) _).mono ?_);rintro e w' ⟨rfl,rfl⟩)|(go_at_call 122;(with_reducible refine (rhas_C 2 (by omega) (by omega) _).mono ?_);rintro e w' ⟨rfl,rfl⟩)|(go_at_call 122;(with_reducible refine (rhas_I 2 (by omega) (by omega) _).mono ?_);rintro e w' ⟨rfl,rfl⟩)|(go_at_call 123;(with_reducible refine (Ra.out _).mono ?_);rintro e w' ⟨rfl,rfl⟩)|(go_at_call 123;(with_reducible refine (Rb.out _).mono ?_);rintro e w' ⟨rfl,rfl⟩)|(go_at_call 123;(with_reducible refine (Rc.out _).mono ?_);rintro e w' ⟨rfl,rfl⟩))
 go_ret
 exact ⟨rfl,rfl⟩
theorem rgood_3 (a b c:Int) (ha:0≤a∧a<8) (hb:0≤b∧b<8) (hc:0≤c∧c<8) (w:World):Calls Tryz.prog 75 #[.agg (insc ⟨3,a,b,c,0⟩)] w fun e w'=>e=.returned (.bool true)∧w'=w.alloc (.cells (insc ⟨3,a,b,c,0⟩) 33):=by
 have hx:(w.alloc (.cells (insc ⟨3,a,b,c,0⟩) 33)).heap[w.heap.size]? =some (.cells (insc ⟨3,a,b,c,0⟩) 33 (0,0)):=by simp
 have d1a:decide (0≤a)=true:=by simp;omega
 have d2a:decide (a≤7)=true:=by simp;omega
 have Ra:=Lib.hid (fun w=>rreg a w)
 rw [d1a,d2a] at Ra
 have d1b:decide (0≤b)=true:=by simp;omega
 have d2b:decide (b≤7)=true:=by simp;omega
 have Rb:=Lib.hid (fun w=>rreg b w)
 rw [d1b,d2b] at Rb
 have d1c:decide (0≤c)=true:=by simp;omega
 have d2c:decide (c≤7)=true:=by simp;omega
 have Rc:=Lib.hid (fun w=>rreg c w)
 rw [d1c,d2c] at Rc
 have LA:hasA 3=true:=by decide
 have LB:hasB 3=true:=by decide
 have LC:hasC 3=true:=by decide
 have LI:hasI 3=false:=by decide
 clear ha hb hc
 go_enter Tryz.func75,Tryz.ntmps75
 try dsimp only [List.append]
 go_wp2_with (first |(go_at_call 122;(with_reducible refine (rhas_A 3 (by omega) (by omega) _).mono ?_);rintro e w' ⟨rfl,rfl⟩)|(go_at_call 122;(with_reducible refine (rhas_B 3 (by omega) (by omega) _).mono ?_);rintro e w' ⟨rfl,rfl⟩)|(go_at_call 122;(with_reducible refine (rhas_C 3 (by omega) (by omega) _).mono ?_);rintro e w' ⟨rfl,rfl⟩)|(go_at_call 122;(with_reducible refine (rhas_I 3 (by omega) (by omega) _).mono ?_);rintro e w' ⟨rfl,rfl⟩)|(go_at_call 123;(with_reducible refine (Ra.out _).mono ?_);rintro e w' ⟨rfl,rfl⟩)|(go_at_call 123;(with_reducible refine (Rb.out _).mono ?_);rintro e w' ⟨rfl,rfl⟩)|(go_at_call 123;(with_reducible refine (Rc.out _).mono ?_);rintro e w' ⟨rfl,rfl⟩))
 go_ret
 exact ⟨rfl,rfl⟩
theorem rgood_4 (a b c:Int) (ha:0≤a∧a<8) (hb:0≤b∧b<8) (hc:0≤c∧c<8) (w:World):Calls Tryz.prog 75 #[.agg (insc ⟨4,a,b,c,0⟩)] w fun e w'=>e=.returned (.bool true)∧w'=w.alloc (.cells (insc ⟨4,a,b,c,0⟩) 33):=by
 have hx:(w.alloc (.cells (insc ⟨4,a,b,c,0⟩) 33)).heap[w.heap.size]? =some (.cells (insc ⟨4,a,b,c,0⟩) 33 (0,0)):=by simp
 have d1a:decide (0≤a)=true:=by simp;omega
 have d2a:decide (a≤7)=true:=by simp;omega
 have Ra:=Lib.hid (fun w=>rreg a w)
 rw [d1a,d2a] at Ra
 have d1b:decide (0≤b)=true:=by simp;omega
 have d2b:decide (b≤7)=true:=by simp;omega
 have Rb:=Lib.hid (fun w=>rreg b w)
 rw [d1b,d2b] at Rb
 have d1c:decide (0≤c)=true:=by simp;omega
 have d2c:decide (c≤7)=true:=by simp;omega
 have Rc:=Lib.hid (fun w=>rreg c w)
 rw [d1c,d2c] at Rc
 have LA:hasA 4=true:=by decide
 have LB:hasB 4=true:=by decide
 have LC:hasC 4=true:=by decide
 have LI:hasI 4=false:=by decide
 clear ha hb hc
 go_enter Tryz.func75,Tryz.ntmps75
 try dsimp only [List.append]
 go_wp2_with (first |(go_at_call 122;(with_reducible refine (rhas_A 4 (by omega) (by omega) _).mono ?_);rintro e w' ⟨rfl,rfl⟩)|(go_at_call 122;(with_reducible refine (rhas_B 4 (by omega) (by omega) _).mono ?_);rintro e w' ⟨rfl,rfl⟩)|(go_at_call 122;(with_reducible refine (rhas_C 4 (by omega) (by omega) _).mono ?_);rintro e w' ⟨rfl,rfl⟩)|(go_at_call 122;(with_reducible refine (rhas_I 4 (by omega) (by omega) _).mono ?_);rintro e w' ⟨rfl,rfl⟩)|(go_at_call 123;(with_reducible refine (Ra.out _).mono ?_);rintro e w' ⟨rfl,rfl⟩)|(go_at_call 123;(with_reducible refine (Rb.out _).mono ?_);rintro e w' ⟨rfl,rfl⟩)|(go_at_call 123;(with_reducible refine (Rc.out _).mono ?_);rintro e w' ⟨rfl,rfl⟩))
 go_ret
 exact ⟨rfl,rfl⟩
theorem rgood_5 (a b c:Int) (ha:0≤a∧a<8) (hb:0≤b∧b<8) (hc:0≤c∧c<8) (w:World):Calls Tryz.prog 75 #[.agg (insc ⟨5,a,b,c,0⟩)] w fun e w'=>e=.returned (.bool true)∧w'=w.alloc (.cells (insc ⟨5,a,b,c,0⟩) 33):=by
 have hx:(w.alloc (.cells (insc ⟨5,a,b,c,0⟩) 33)).heap[w.heap.size]? =some (.cells (insc ⟨5,a,b,c,0⟩) 33 (0,0)):=by simp
 have d1a:decide (0≤a)=true:=by simp;omega
 have d2a:decide (a≤7)=true:=by simp;omega
 have Ra:=Lib.hid (fun w=>rreg a w)
 rw [d1a,d2a] at Ra
 have d1b:decide (0≤b)=true:=by simp;omega
 have d2b:decide (b≤7)=true:=by simp;omega
 have Rb:=Lib.hid (fun w=>rreg b w)
 rw [d1b,d2b] at Rb
 have d1c:decide (0≤c)=true:=by simp;omega
 have d2c:decide (c≤7)=true:=by simp;omega
 have Rc:=Lib.hid (fun w=>rreg c w)
 rw [d1c,d2c] at Rc
 have LA:hasA 5=true:=by decide
 have LB:hasB 5=true:=by decide
 have LC:hasC 5=true:=by decide
 have LI:hasI 5=false:=by decide
 clear ha hb hc
 go_enter Tryz.func75,Tryz.ntmps75
 try dsimp only [List.append]
 go_wp2_with (first |(go_at_call 122;(with_reducible refine (rhas_A 5 (by omega) (by omega) _).mono ?_);rintro e w' ⟨rfl,rfl⟩)|(go_at_call 122;(with_reducible refine (rhas_B 5 (by omega) (by omega) _).mono ?_);rintro e w' ⟨rfl,rfl⟩)|(go_at_call 122;(with_reducible refine (rhas_C 5 (by omega) (by omega) _).mono ?_);rintro e w' ⟨rfl,rfl⟩)|(go_at_call 122;(with_reducible refine (rhas_I 5 (by omega) (by omega) _).mono ?_);rintro e w' ⟨rfl,rfl⟩)|(go_at_call 123;(with_reducible refine (Ra.out _).mono ?_);rintro e w' ⟨rfl,rfl⟩)|(go_at_call 123;(with_reducible refine (Rb.out _).mono ?_);rintro e w' ⟨rfl,rfl⟩)|(go_at_call 123;(with_reducible refine (Rc.out _).mono ?_);rintro e w' ⟨rfl,rfl⟩))
 go_ret
 exact ⟨rfl,rfl⟩
theorem rgood_6 (a b c:Int) (ha:0≤a∧a<8) (hb:0≤b∧b<8) (hc:0≤c∧c<8) (w:World):Calls Tryz.prog 75 #[.agg (insc ⟨6,a,b,c,0⟩)] w fun e w'=>e=.returned (.bool true)∧w'=w.alloc (.cells (insc ⟨6,a,b,c,0⟩) 33):=by
 have hx:(w.alloc (.cells (insc ⟨6,a,b,c,0⟩) 33)).heap[w.heap.size]? =some (.cells (insc ⟨6,a,b,c,0⟩) 33 (0,0)):=by simp
 have d1a:decide (0≤a)=true:=by simp;omega
 have d2a:decide (a≤7)=true:=by simp;omega
 have Ra:=Lib.hid (fun w=>rreg a w)
 rw [d1a,d2a] at Ra
 have d1b:decide (0≤b)=true:=by simp;omega
 have d2b:decide (b≤7)=true:=by simp;omega
 have Rb:=Lib.hid (fun w=>rreg b w)
 rw [d1b,d2b] at Rb
 have d1c:decide (0≤c)=true:=by simp;omega
 have d2c:decide (c≤7)=true:=by simp;omega
 have Rc:=Lib.hid (fun w=>rreg c w)
 rw [d1c,d2c] at Rc
 have LA:hasA 6=true:=by decide
 have LB:hasB 6=true:=by decide
 have LC:hasC 6=true:=by decide
 have LI:hasI 6=false:=by decide
 clear ha hb hc
 go_enter Tryz.func75,Tryz.ntmps75
 try dsimp only [List.append]
 go_wp2_with (first |(go_at_call 122;(with_reducible refine (rhas_A 6 (by omega) (by omega) _).mono ?_);rintro e w' ⟨rfl,rfl⟩)|(go_at_call 122;(with_reducible refine (rhas_B 6 (by omega) (by omega) _).mono ?_);rintro e w' ⟨rfl,rfl⟩)|(go_at_call 122;(with_reducible refine (rhas_C 6 (by omega) (by omega) _).mono ?_);rintro e w' ⟨rfl,rfl⟩)|(go_at_call 122;(with_reducible refine (rhas_I 6 (by omega) (by omega) _).mono ?_);rintro e w' ⟨rfl,rfl⟩)|(go_at_call 123;(with_reducible refine (Ra.out _).mono ?_);rintro e w' ⟨rfl,rfl⟩)|(go_at_call 123;(with_reducible refine (Rb.out _).mono ?_);rintro e w' ⟨rfl,rfl⟩)|(go_at_call 123;(with_reducible refine (Rc.out _).mono ?_);rintro e w' ⟨rfl,rfl⟩))
 go_ret
 exact ⟨rfl,rfl⟩
theorem rgood_7 (a b c:Int) (ha:0≤a∧a<8) (hb:0≤b∧b<8) (hc:0≤c∧c<8) (w:World):Calls Tryz.prog 75 #[.agg (insc ⟨7,a,b,c,0⟩)] w fun e w'=>e=.returned (.bool true)∧w'=w.alloc (.cells (insc ⟨7,a,b,c,0⟩) 33):=by
 have hx:(w.alloc (.cells (insc ⟨7,a,b,c,0⟩) 33)).heap[w.heap.size]? =some (.cells (insc ⟨7,a,b,c,0⟩) 33 (0,0)):=by simp
 have d1a:decide (0≤a)=true:=by simp;omega
 have d2a:decide (a≤7)=true:=by simp;omega
 have Ra:=Lib.hid (fun w=>rreg a w)
 rw [d1a,d2a] at Ra
 have d1b:decide (0≤b)=true:=by simp;omega
 have d2b:decide (b≤7)=true:=by simp;omega
 have Rb:=Lib.hid (fun w=>rreg b w)
 rw [d1b,d2b] at Rb
 have d1c:decide (0≤c)=true:=by simp;omega
 have d2c:decide (c≤7)=true:=by simp;omega
 have Rc:=Lib.hid (fun w=>rreg c w)
 rw [d1c,d2c] at Rc
 have LA:hasA 7=true:=by decide
 have LB:hasB 7=true:=by decide
 have LC:hasC 7=true:=by decide
 have LI:hasI 7=false:=by decide
 clear ha hb hc
 go_enter Tryz.func75,Tryz.ntmps75
 try dsimp only [List.append]
 go_wp2_with (first |(go_at_call 122;(with_reducible refine (rhas_A 7 (by omega) (by omega) _).mono ?_);rintro e w' ⟨rfl,rfl⟩)|(go_at_call 122;(with_reducible refine (rhas_B 7 (by omega) (by omega) _).mono ?_);rintro e w' ⟨rfl,rfl⟩)|(go_at_call 122;(with_reducible refine (rhas_C 7 (by omega) (by omega) _).mono ?_);rintro e w' ⟨rfl,rfl⟩)|(go_at_call 122;(with_reducible refine (rhas_I 7 (by omega) (by omega) _).mono ?_);rintro e w' ⟨rfl,rfl⟩)|(go_at_call 123;(with_reducible refine (Ra.out _).mono ?_);rintro e w' ⟨rfl,rfl⟩)|(go_at_call 123;(with_reducible refine (Rb.out _).mono ?_);rintro e w' ⟨rfl,rfl⟩)|(go_at_call 123;(with_reducible refine (Rc.out _).mono ?_);rintro e w' ⟨rfl,rfl⟩))
 go_ret
 exact ⟨rfl,rfl⟩
theorem rgood_8 (a b m:Int) (ha:0≤a∧a<8) (hb:0≤b∧b<8) (hm: -2147483648≤m∧m≤2147483647) (w:World):Calls Tryz.prog 75 #[.agg (insc ⟨8,a,b,0,m⟩)] w fun e w'=>e=.returned (.bool true)∧w'=w.alloc (.cells (insc ⟨8,a,b,0,m⟩) 33):=by
 have hx:(w.alloc (.cells (insc ⟨8,a,b,0,m⟩) 33)).heap[w.heap.size]? =some (.cells (insc ⟨8,a,b,0,m⟩) 33 (0,0)):=by simp
 have d1a:decide (0≤a)=true:=by simp;omega
 have d2a:decide (a≤7)=true:=by simp;omega
 have Ra:=Lib.hid (fun w=>rreg a w)
 rw [d1a,d2a] at Ra
 have d1b:decide (0≤b)=true:=by simp;omega
 have d2b:decide (b≤7)=true:=by simp;omega
 have Rb:=Lib.hid (fun w=>rreg b w)
 rw [d1b,d2b] at Rb
 have e1:decide (-2147483648≤m)=true:=by simp;omega
 have e2:decide (m<2147483648)=true:=by simp;omega
 have LA:hasA 8=true:=by decide
 have LB:hasB 8=true:=by decide
 have LC:hasC 8=false:=by decide
 have LI:hasI 8=true:=by decide
 clear ha hb hm
 go_enter Tryz.func75,Tryz.ntmps75
 try dsimp only [List.append]
 go_wp2_with (first |(go_at_call 122;(with_reducible refine (rhas_A 8 (by omega) (by omega) _).mono ?_);rintro e w' ⟨rfl,rfl⟩)|(go_at_call 122;(with_reducible refine (rhas_B 8 (by omega) (by omega) _).mono ?_);rintro e w' ⟨rfl,rfl⟩)|(go_at_call 122;(with_reducible refine (rhas_C 8 (by omega) (by omega) _).mono ?_);rintro e w' ⟨rfl,rfl⟩)|(go_at_call 122;(with_reducible refine (rhas_I 8 (by omega) (by omega) _).mono ?_);rintro e w' ⟨rfl,rfl⟩)|(go_at_call 123;(with_reducible refine (Ra.out _).mono ?_);rintro e w' ⟨rfl,rfl⟩)|(go_at_call 123;(with_reducible refine (Rb.out _).mono ?_);rintro e w' ⟨rfl,rfl⟩))
 go_ret
 exact ⟨rfl,rfl⟩
theorem rgood_9 (a b m:Int) (ha:0≤a∧a<8) (hb:0≤b∧b<8) (hm: -2147483648≤m∧m≤2147483647) (w:World):Calls Tryz.prog 75 #[.agg (insc ⟨9,a,b,0,m⟩)] w fun e w'=>e=.returned (.bool true)∧w'=w.alloc (.cells (insc ⟨9,a,b,0,m⟩) 33):=by
 have hx:(w.alloc (.cells (insc ⟨9,a,b,0,m⟩) 33)).heap[w.heap.size]? =some (.cells (insc ⟨9,a,b,0,m⟩) 33 (0,0)):=by simp
 have d1a:decide (0≤a)=true:=by simp;omega
 have d2a:decide (a≤7)=true:=by simp;omega
 have Ra:=Lib.hid (fun w=>rreg a w)
 rw [d1a,d2a] at Ra
 have d1b:decide (0≤b)=true:=by simp;omega
 have d2b:decide (b≤7)=true:=by simp;omega
 have Rb:=Lib.hid (fun w=>rreg b w)
 rw [d1b,d2b] at Rb
 have e1:decide (-2147483648≤m)=true:=by simp;omega
 have e2:decide (m<2147483648)=true:=by simp;omega
 have LA:hasA 9=true:=by decide
 have LB:hasB 9=true:=by decide
 have LC:hasC 9=false:=by decide
 have LI:hasI 9=true:=by decide
 clear ha hb hm
 go_enter Tryz.func75,Tryz.ntmps75
 try dsimp only [List.append]
 go_wp2_with (first |(go_at_call 122;(with_reducible refine (rhas_A 9 (by omega) (by omega) _).mono ?_);rintro e w' ⟨rfl,rfl⟩)|(go_at_call 122;(with_reducible refine (rhas_B 9 (by omega) (by omega) _).mono ?_);rintro e w' ⟨rfl,rfl⟩)|(go_at_call 122;(with_reducible refine (rhas_C 9 (by omega) (by omega) _).mono ?_);rintro e w' ⟨rfl,rfl⟩)|(go_at_call 122;(with_reducible refine (rhas_I 9 (by omega) (by omega) _).mono ?_);rintro e w' ⟨rfl,rfl⟩)|(go_at_call 123;(with_reducible refine (Ra.out _).mono ?_);rintro e w' ⟨rfl,rfl⟩)|(go_at_call 123;(with_reducible refine (Rb.out _).mono ?_);rintro e w' ⟨rfl,rfl⟩))
 go_ret
 exact ⟨rfl,rfl⟩
theorem rgood_10 (a b c:Int) (ha:0≤a∧a<8) (hb:0≤b∧b<8) (hc:0≤c∧c<8) (w:World):Calls Tryz.prog 75 #[.agg (insc ⟨10,a,b,c,0⟩)] w fun e w'=>e=.returned (.bool true)∧w'=w.alloc (.cells (insc ⟨10,a,b,c,0⟩) 33):=by
 have hx:(w.alloc (.cells (insc ⟨10,a,b,c,0⟩) 33)).heap[w.heap.size]? =some (.cells (insc ⟨10,a,b,c,0⟩) 33 (0,0)):=by simp
 have d1a:decide (0≤a)=true:=by simp;omega
 have d2a:decide (a≤7)=true:=by simp;omega
 have Ra:=Lib.hid (fun w=>rreg a w)
 rw [d1a,d2a] at Ra
 have d1b:decide (0≤b)=true:=by simp;omega
 have d2b:decide (b≤7)=true:=by simp;omega
 have Rb:=Lib.hid (fun w=>rreg b w)
 rw [d1b,d2b] at Rb
 have d1c:decide (0≤c)=true:=by simp;omega
 have d2c:decide (c≤7)=true:=by simp;omega
 have Rc:=Lib.hid (fun w=>rreg c w)
 rw [d1c,d2c] at Rc
 have LA:hasA 10=true:=by decide
 have LB:hasB 10=true:=by decide
 have LC:hasC 10=true:=by decide
 have LI:hasI 10=false:=by decide
 clear ha hb hc
 go_enter Tryz.func75,Tryz.ntmps75
 try dsimp only [List.append]
 go_wp2_with (first |(go_at_call 122;(with_reducible refine (rhas_A 10 (by omega) (by omega) _).mono ?_);rintro e w' ⟨rfl,rfl⟩)|(go_at_call 122;(with_reducible refine (rhas_B 10 (by omega) (by omega) _).mono ?_);rintro e w' ⟨rfl,rfl⟩)|(go_at_call 122;(with_reducible refine (rhas_C 10 (by omega) (by omega) _).mono ?_);rintro e w' ⟨rfl,rfl⟩)|(go_at_call 122;(with_reducible refine (rhas_I 10 (by omega) (by omega) _).mono ?_);rintro e w' ⟨rfl,rfl⟩)|(go_at_call 123;(with_reducible refine (Ra.out _).mono ?_);rintro e w' ⟨rfl,rfl⟩)|(go_at_call 123;(with_reducible refine (Rb.out _).mono ?_);rintro e w' ⟨rfl,rfl⟩)|(go_at_call 123;(with_reducible refine (Rc.out _).mono ?_);rintro e w' ⟨rfl,rfl⟩))
 go_ret
 exact ⟨rfl,rfl⟩
theorem rgood_11 (a b c:Int) (ha:0≤a∧a<8) (hb:0≤b∧b<8) (hc:0≤c∧c<8) (w:World):Calls Tryz.prog 75 #[.agg (insc ⟨11,a,b,c,0⟩)] w fun e w'=>e=.returned (.bool true)∧w'=w.alloc (.cells (insc ⟨11,a,b,c,0⟩) 33):=by
 have hx:(w.alloc (.cells (insc ⟨11,a,b,c,0⟩) 33)).heap[w.heap.size]? =some (.cells (insc ⟨11,a,b,c,0⟩) 33 (0,0)):=by simp
 have d1a:decide (0≤a)=true:=by simp;omega
 have d2a:decide (a≤7)=true:=by simp;omega
 have Ra:=Lib.hid (fun w=>rreg a w)
 rw [d1a,d2a] at Ra
 have d1b:decide (0≤b)=true:=by simp;omega
 have d2b:decide (b≤7)=true:=by simp;omega
 have Rb:=Lib.hid (fun w=>rreg b w)
 rw [d1b,d2b] at Rb
 have d1c:decide (0≤c)=true:=by simp;omega
 have d2c:decide (c≤7)=true:=by simp;omega
 have Rc:=Lib.hid (fun w=>rreg c w)
 rw [d1c,d2c] at Rc
 have LA:hasA 11=true:=by decide
 have LB:hasB 11=true:=by decide
 have LC:hasC 11=true:=by decide
 have LI:hasI 11=false:=by decide
 clear ha hb hc
 go_enter Tryz.func75,Tryz.ntmps75
 try dsimp only [List.append]
 go_wp2_with (first |(go_at_call 122;(with_reducible refine (rhas_A 11 (by omega) (by omega) _).mono ?_);rintro e w' ⟨rfl,rfl⟩)|(go_at_call 122;(with_reducible refine (rhas_B 11 (by omega) (by omega) _).mono ?_);rintro e w' ⟨rfl,rfl⟩)|(go_at_call 122;(with_reducible refine (rhas_C 11 (by omega) (by omega) _).mono ?_);rintro e w' ⟨rfl,rfl⟩)|(go_at_call 122;(with_reducible refine (rhas_I 11 (by omega) (by omega) _).mono ?_);rintro e w' ⟨rfl,rfl⟩)|(go_at_call 123;(with_reducible refine (Ra.out _).mono ?_);rintro e w' ⟨rfl,rfl⟩)|(go_at_call 123;(with_reducible refine (Rb.out _).mono ?_);rintro e w' ⟨rfl,rfl⟩)|(go_at_call 123;(with_reducible refine (Rc.out _).mono ?_);rintro e w' ⟨rfl,rfl⟩))
 go_ret
 exact ⟨rfl,rfl⟩
theorem rgood_12 (b m:Int) (hb:0≤b∧b<8) (hm: -2147483648≤m∧m≤2147483647) (w:World):Calls Tryz.prog 75 #[.agg (insc ⟨12,0,b,0,m⟩)] w fun e w'=>e=.returned (.bool true)∧w'=w.alloc (.cells (insc ⟨12,0,b,0,m⟩) 33):=by
 have hx:(w.alloc (.cells (insc ⟨12,0,b,0,m⟩) 33)).heap[w.heap.size]? =some (.cells (insc ⟨12,0,b,0,m⟩) 33 (0,0)):=by simp
 have d1b:decide (0≤b)=true:=by simp;omega
 have d2b:decide (b≤7)=true:=by simp;omega
 have Rb:=Lib.hid (fun w=>rreg b w)
 rw [d1b,d2b] at Rb
 have e1:decide (-2147483648≤m)=true:=by simp;omega
 have e2:decide (m<2147483648)=true:=by simp;omega
 have LA:hasA 12=false:=by decide
 have LB:hasB 12=true:=by decide
 have LC:hasC 12=false:=by decide
 have LI:hasI 12=true:=by decide
 clear hb hm
 go_enter Tryz.func75,Tryz.ntmps75
 try dsimp only [List.append]
 go_wp2_with (first |(go_at_call 122;(with_reducible refine (rhas_A 12 (by omega) (by omega) _).mono ?_);rintro e w' ⟨rfl,rfl⟩)|(go_at_call 122;(with_reducible refine (rhas_B 12 (by omega) (by omega) _).mono ?_);rintro e w' ⟨rfl,rfl⟩)|(go_at_call 122;(with_reducible refine (rhas_C 12 (by omega) (by omega) _).mono ?_);rintro e w' ⟨rfl,rfl⟩)|(go_at_call 122;(with_reducible refine (rhas_I 12 (by omega) (by omega) _).mono ?_);rintro e w' ⟨rfl,rfl⟩)|(go_at_call 123;(with_reducible refine (Rb.out _).mono ?_);rintro e w' ⟨rfl,rfl⟩))
 go_ret
 exact ⟨rfl,rfl⟩
theorem rgood_13 (b m:Int) (hb:0≤b∧b<8) (hm: -2147483648≤m∧m≤2147483647) (w:World):Calls Tryz.prog 75 #[.agg (insc ⟨13,0,b,0,m⟩)] w fun e w'=>e=.returned (.bool true)∧w'=w.alloc (.cells (insc ⟨13,0,b,0,m⟩) 33):=by
 have hx:(w.alloc (.cells (insc ⟨13,0,b,0,m⟩) 33)).heap[w.heap.size]? =some (.cells (insc ⟨13,0,b,0,m⟩) 33 (0,0)):=by simp
 have d1b:decide (0≤b)=true:=by simp;omega
 have d2b:decide (b≤7)=true:=by simp;omega
 have Rb:=Lib.hid (fun w=>rreg b w)
 rw [d1b,d2b] at Rb
 have e1:decide (-2147483648≤m)=true:=by simp;omega
 have e2:decide (m<2147483648)=true:=by simp;omega
 have LA:hasA 13=false:=by decide
 have LB:hasB 13=true:=by decide
 have LC:hasC 13=false:=by decide
 have LI:hasI 13=true:=by decide
 clear hb hm
 go_enter Tryz.func75,Tryz.ntmps75
 try dsimp only [List.append]
 go_wp2_with (first |(go_at_call 122;(with_reducible refine (rhas_A 13 (by omega) (by omega) _).mono ?_);rintro e w' ⟨rfl,rfl⟩)|(go_at_call 122;(with_reducible refine (rhas_B 13 (by omega) (by omega) _).mono ?_);rintro e w' ⟨rfl,rfl⟩)|(go_at_call 122;(with_reducible refine (rhas_C 13 (by omega) (by omega) _).mono ?_);rintro e w' ⟨rfl,rfl⟩)|(go_at_call 122;(with_reducible refine (rhas_I 13 (by omega) (by omega) _).mono ?_);rintro e w' ⟨rfl,rfl⟩)|(go_at_call 123;(with_reducible refine (Rb.out _).mono ?_);rintro e w' ⟨rfl,rfl⟩))
 go_ret
 exact ⟨rfl,rfl⟩
theorem rgood_14 (b m:Int) (hb:0≤b∧b<8) (hm: -2147483648≤m∧m≤2147483647) (w:World):Calls Tryz.prog 75 #[.agg (insc ⟨14,0,b,0,m⟩)] w fun e w'=>e=.returned (.bool true)∧w'=w.alloc (.cells (insc ⟨14,0,b,0,m⟩) 33):=by
 have hx:(w.alloc (.cells (insc ⟨14,0,b,0,m⟩) 33)).heap[w.heap.size]? =some (.cells (insc ⟨14,0,b,0,m⟩) 33 (0,0)):=by simp
 have d1b:decide (0≤b)=true:=by simp;omega
 have d2b:decide (b≤7)=true:=by simp;omega
 have Rb:=Lib.hid (fun w=>rreg b w)
 rw [d1b,d2b] at Rb
 have e1:decide (-2147483648≤m)=true:=by simp;omega
 have e2:decide (m<2147483648)=true:=by simp;omega
 have LA:hasA 14=false:=by decide
 have LB:hasB 14=true:=by decide
 have LC:hasC 14=false:=by decide
 have LI:hasI 14=true:=by decide
 clear hb hm
 go_enter Tryz.func75,Tryz.ntmps75
 try dsimp only [List.append]
 go_wp2_with (first |(go_at_call 122;(with_reducible refine (rhas_A 14 (by omega) (by omega) _).mono ?_);rintro e w' ⟨rfl,rfl⟩)|(go_at_call 122;(with_reducible refine (rhas_B 14 (by omega) (by omega) _).mono ?_);rintro e w' ⟨rfl,rfl⟩)|(go_at_call 122;(with_reducible refine (rhas_C 14 (by omega) (by omega) _).mono ?_);rintro e w' ⟨rfl,rfl⟩)|(go_at_call 122;(with_reducible refine (rhas_I 14 (by omega) (by omega) _).mono ?_);rintro e w' ⟨rfl,rfl⟩)|(go_at_call 123;(with_reducible refine (Rb.out _).mono ?_);rintro e w' ⟨rfl,rfl⟩))
 go_ret
 exact ⟨rfl,rfl⟩
theorem rgood_15 (w:World):Calls Tryz.prog 75 #[.agg (insc ⟨15,0,0,0,0⟩)] w fun e w'=>e=.returned (.bool true)∧w'=w.alloc (.cells (insc ⟨15,0,0,0,0⟩) 33):=by
 have hx:(w.alloc (.cells (insc ⟨15,0,0,0,0⟩) 33)).heap[w.heap.size]? =some (.cells (insc ⟨15,0,0,0,0⟩) 33 (0,0)):=by simp
 have LA:hasA 15=false:=by decide
 have LB:hasB 15=false:=by decide
 have LC:hasC 15=false:=by decide
 have LI:hasI 15=false:=by decide
 go_enter Tryz.func75,Tryz.ntmps75
 try dsimp only [List.append]
 go_wp2_with (first |(go_at_call 122;(with_reducible refine (rhas_A 15 (by omega) (by omega) _).mono ?_);rintro e w' ⟨rfl,rfl⟩)|(go_at_call 122;(with_reducible refine (rhas_B 15 (by omega) (by omega) _).mono ?_);rintro e w' ⟨rfl,rfl⟩)|(go_at_call 122;(with_reducible refine (rhas_C 15 (by omega) (by omega) _).mono ?_);rintro e w' ⟨rfl,rfl⟩)|(go_at_call 122;(with_reducible refine (rhas_I 15 (by omega) (by omega) _).mono ?_);rintro e w' ⟨rfl,rfl⟩))
 go_ret
 exact ⟨rfl,rfl⟩
theorem rgood_16 (w:World):Calls Tryz.prog 75 #[.agg (insc ⟨16,0,0,0,0⟩)] w fun e w'=>e=.returned (.bool true)∧w'=w.alloc (.cells (insc ⟨16,0,0,0,0⟩) 33):=by
 have hx:(w.alloc (.cells (insc ⟨16,0,0,0,0⟩) 33)).heap[w.heap.size]? =some (.cells (insc ⟨16,0,0,0,0⟩) 33 (0,0)):=by simp
 have LA:hasA 16=false:=by decide
 have LB:hasB 16=false:=by decide
 have LC:hasC 16=false:=by decide
 have LI:hasI 16=false:=by decide
 go_enter Tryz.func75,Tryz.ntmps75
 try dsimp only [List.append]
 go_wp2_with (first |(go_at_call 122;(with_reducible refine (rhas_A 16 (by omega) (by omega) _).mono ?_);rintro e w' ⟨rfl,rfl⟩)|(go_at_call 122;(with_reducible refine (rhas_B 16 (by omega) (by omega) _).mono ?_);rintro e w' ⟨rfl,rfl⟩)|(go_at_call 122;(with_reducible refine (rhas_C 16 (by omega) (by omega) _).mono ?_);rintro e w' ⟨rfl,rfl⟩)|(go_at_call 122;(with_reducible refine (rhas_I 16 (by omega) (by omega) _).mono ?_);rintro e w' ⟨rfl,rfl⟩))
 go_ret
 exact ⟨rfl,rfl⟩
theorem rgood_17 (m:Int) (hm:0≤m∧m≤2147483647) (w:World):Calls Tryz.prog 75 #[.agg (insc ⟨17,0,0,0,m⟩)] w fun e w'=>e=.returned (.bool true)∧w'=w.alloc (.cells (insc ⟨17,0,0,0,m⟩) 33):=by
 have hx:(w.alloc (.cells (insc ⟨17,0,0,0,m⟩) 33)).heap[w.heap.size]? =some (.cells (insc ⟨17,0,0,0,m⟩) 33 (0,0)):=by simp
 have e1:decide (-2147483648≤m)=true:=by simp;omega
 have e2:decide (m<2147483648)=true:=by simp;omega
 have e3:decide (0≤m)=true:=by simp;omega
 have LA:hasA 17=false:=by decide
 have LB:hasB 17=false:=by decide
 have LC:hasC 17=false:=by decide
 have LI:hasI 17=true:=by decide
 clear hm
 go_enter Tryz.func75,Tryz.ntmps75
 try dsimp only [List.append]
 go_wp2_with (first |(go_at_call 122;(with_reducible refine (rhas_A 17 (by omega) (by omega) _).mono ?_);rintro e w' ⟨rfl,rfl⟩)|(go_at_call 122;(with_reducible refine (rhas_B 17 (by omega) (by omega) _).mono ?_);rintro e w' ⟨rfl,rfl⟩)|(go_at_call 122;(with_reducible refine (rhas_C 17 (by omega) (by omega) _).mono ?_);rintro e w' ⟨rfl,rfl⟩)|(go_at_call 122;(with_reducible refine (rhas_I 17 (by omega) (by omega) _).mono ?_);rintro e w' ⟨rfl,rfl⟩))
 go_ret
 exact ⟨rfl,rfl⟩
theorem rgood_18 (a b m:Int) (ha:0≤a∧a<8) (hb:0≤b∧b<8) (hm:0≤m∧m≤2147483647) (w:World):Calls Tryz.prog 75 #[.agg (insc ⟨18,a,b,0,m⟩)] w fun e w'=>e=.returned (.bool true)∧w'=w.alloc (.cells (insc ⟨18,a,b,0,m⟩) 33):=by
 have hx:(w.alloc (.cells (insc ⟨18,a,b,0,m⟩) 33)).heap[w.heap.size]? =some (.cells (insc ⟨18,a,b,0,m⟩) 33 (0,0)):=by simp
 have d1a:decide (0≤a)=true:=by simp;omega
 have d2a:decide (a≤7)=true:=by simp;omega
 have Ra:=Lib.hid (fun w=>rreg a w)
 rw [d1a,d2a] at Ra
 have d1b:decide (0≤b)=true:=by simp;omega
 have d2b:decide (b≤7)=true:=by simp;omega
 have Rb:=Lib.hid (fun w=>rreg b w)
 rw [d1b,d2b] at Rb
 have e1:decide (-2147483648≤m)=true:=by simp;omega
 have e2:decide (m<2147483648)=true:=by simp;omega
 have e3:decide (0≤m)=true:=by simp;omega
 have LA:hasA 18=true:=by decide
 have LB:hasB 18=true:=by decide
 have LC:hasC 18=false:=by decide
 have LI:hasI 18=true:=by decide
 clear ha hb hm
 go_enter Tryz.func75,Tryz.ntmps75
 try dsimp only [List.append]
 go_wp2_with (first |(go_at_call 122;(with_reducible refine (rhas_A 18 (by omega) (by omega) _).mono ?_);rintro e w' ⟨rfl,rfl⟩)|(go_at_call 122;(with_reducible refine (rhas_B 18 (by omega) (by omega) _).mono ?_);rintro e w' ⟨rfl,rfl⟩)|(go_at_call 122;(with_reducible refine (rhas_C 18 (by omega) (by omega) _).mono ?_);rintro e w' ⟨rfl,rfl⟩)|(go_at_call 122;(with_reducible refine (rhas_I 18 (by omega) (by omega) _).mono ?_);rintro e w' ⟨rfl,rfl⟩)|(go_at_call 123;(with_reducible refine (Ra.out _).mono ?_);rintro e w' ⟨rfl,rfl⟩)|(go_at_call 123;(with_reducible refine (Rb.out _).mono ?_);rintro e w' ⟨rfl,rfl⟩))
 go_ret
 exact ⟨rfl,rfl⟩
theorem rgood_19 (a b m:Int) (ha:0≤a∧a<8) (hb:0≤b∧b<8) (hm:0≤m∧m≤2147483647) (w:World):Calls Tryz.prog 75 #[.agg (insc ⟨19,a,b,0,m⟩)] w fun e w'=>e=.returned (.bool true)∧w'=w.alloc (.cells (insc ⟨19,a,b,0,m⟩) 33):=by
 have hx:(w.alloc (.cells (insc ⟨19,a,b,0,m⟩) 33)).heap[w.heap.size]? =some (.cells (insc ⟨19,a,b,0,m⟩) 33 (0,0)):=by simp
 have d1a:decide (0≤a)=true:=by simp;omega
 have d2a:decide (a≤7)=true:=by simp;omega
 have Ra:=Lib.hid (fun w=>rreg a w)
 rw [d1a,d2a] at Ra
 have d1b:decide (0≤b)=true:=by simp;omega
 have d2b:decide (b≤7)=true:=by simp;omega
 have Rb:=Lib.hid (fun w=>rreg b w)
 rw [d1b,d2b] at Rb
 have e1:decide (-2147483648≤m)=true:=by simp;omega
 have e2:decide (m<2147483648)=true:=by simp;omega
 have e3:decide (0≤m)=true:=by simp;omega
 have LA:hasA 19=true:=by decide
 have LB:hasB 19=true:=by decide
 have LC:hasC 19=false:=by decide
 have LI:hasI 19=true:=by decide
 clear ha hb hm
 go_enter Tryz.func75,Tryz.ntmps75
 try dsimp only [List.append]
 go_wp2_with (first |(go_at_call 122;(with_reducible refine (rhas_A 19 (by omega) (by omega) _).mono ?_);rintro e w' ⟨rfl,rfl⟩)|(go_at_call 122;(with_reducible refine (rhas_B 19 (by omega) (by omega) _).mono ?_);rintro e w' ⟨rfl,rfl⟩)|(go_at_call 122;(with_reducible refine (rhas_C 19 (by omega) (by omega) _).mono ?_);rintro e w' ⟨rfl,rfl⟩)|(go_at_call 122;(with_reducible refine (rhas_I 19 (by omega) (by omega) _).mono ?_);rintro e w' ⟨rfl,rfl⟩)|(go_at_call 123;(with_reducible refine (Ra.out _).mono ?_);rintro e w' ⟨rfl,rfl⟩)|(go_at_call 123;(with_reducible refine (Rb.out _).mono ?_);rintro e w' ⟨rfl,rfl⟩))
 go_ret
 exact ⟨rfl,rfl⟩
theorem rgood_20 (a b m:Int) (ha:0≤a∧a<8) (hb:0≤b∧b<8) (hm:0≤m∧m≤2147483647) (w:World):Calls Tryz.prog 75 #[.agg (insc ⟨20,a,b,0,m⟩)] w fun e w'=>e=.returned (.bool true)∧w'=w.alloc (.cells (insc ⟨20,a,b,0,m⟩) 33):=by
 have hx:(w.alloc (.cells (insc ⟨20,a,b,0,m⟩) 33)).heap[w.heap.size]? =some (.cells (insc ⟨20,a,b,0,m⟩) 33 (0,0)):=by simp
 have d1a:decide (0≤a)=true:=by simp;omega
 have d2a:decide (a≤7)=true:=by simp;omega
 have Ra:=Lib.hid (fun w=>rreg a w)
 rw [d1a,d2a] at Ra
 have d1b:decide (0≤b)=true:=by simp;omega
 have d2b:decide (b≤7)=true:=by simp;omega
 have Rb:=Lib.hid (fun w=>rreg b w)
 rw [d1b,d2b] at Rb
 have e1:decide (-2147483648≤m)=true:=by simp;omega
 have e2:decide (m<2147483648)=true:=by simp;omega
 have e3:decide (0≤m)=true:=by simp;omega
 have LA:hasA 20=true:=by decide
 have LB:hasB 20=true:=by decide
 have LC:hasC 20=false:=by decide
 have LI:hasI 20=true:=by decide
 clear ha hb hm
 go_enter Tryz.func75,Tryz.ntmps75
 try dsimp only [List.append]
 go_wp2_with (first |(go_at_call 122;(with_reducible refine (rhas_A 20 (by omega) (by omega) _).mono ?_);rintro e w' ⟨rfl,rfl⟩)|(go_at_call 122;(with_reducible refine (rhas_B 20 (by omega) (by omega) _).mono ?_);rintro e w' ⟨rfl,rfl⟩)|(go_at_call 122;(with_reducible refine (rhas_C 20 (by omega) (by omega) _).mono ?_);rintro e w' ⟨rfl,rfl⟩)|(go_at_call 122;(with_reducible refine (rhas_I 20 (by omega) (by omega) _).mono ?_);rintro e w' ⟨rfl,rfl⟩)|(go_at_call 123;(with_reducible refine (Ra.out _).mono ?_);rintro e w' ⟨rfl,rfl⟩)|(go_at_call 123;(with_reducible refine (Rb.out _).mono ?_);rintro e w' ⟨rfl,rfl⟩))
 go_ret
 exact ⟨rfl,rfl⟩
theorem rgood_21 (a:Int) (ha:0≤a∧a<8) (w:World):Calls Tryz.prog 75 #[.agg (insc ⟨21,a,0,0,0⟩)] w fun e w'=>e=.returned (.bool true)∧w'=w.alloc (.cells (insc ⟨21,a,0,0,0⟩) 33):=by
 have hx:(w.alloc (.cells (insc ⟨21,a,0,0,0⟩) 33)).heap[w.heap.size]? =some (.cells (insc ⟨21,a,0,0,0⟩) 33 (0,0)):=by simp
 have d1a:decide (0≤a)=true:=by simp;omega
 have d2a:decide (a≤7)=true:=by simp;omega
 have Ra:=Lib.hid (fun w=>rreg a w)
 rw [d1a,d2a] at Ra
 have LA:hasA 21=true:=by decide
 have LB:hasB 21=false:=by decide
 have LC:hasC 21=false:=by decide
 have LI:hasI 21=false:=by decide
 clear ha
 go_enter Tryz.func75,Tryz.ntmps75
 try dsimp only [List.append]
 go_wp2_with (first |(go_at_call 122;(with_reducible refine (rhas_A 21 (by omega) (by omega) _).mono ?_);rintro e w' ⟨rfl,rfl⟩)|(go_at_call 122;(with_reducible refine (rhas_B 21 (by omega) (by omega) _).mono ?_);rintro e w' ⟨rfl,rfl⟩)|(go_at_call 122;(with_reducible refine (rhas_C 21 (by omega) (by omega) _).mono ?_);rintro e w' ⟨rfl,rfl⟩)|(go_at_call 122;(with_reducible refine (rhas_I 21 (by omega) (by omega) _).mono ?_);rintro e w' ⟨rfl,rfl⟩)|(go_at_call 123;(with_reducible refine (Ra.out _).mono ?_);rintro e w' ⟨rfl,rfl⟩))
 go_ret
 exact ⟨rfl,rfl⟩
theorem rgood_22 (w:World):Calls Tryz.prog 75 #[.agg (insc ⟨22,0,0,0,0⟩)] w fun e w'=>e=.returned (.bool true)∧w'=w.alloc (.cells (insc ⟨22,0,0,0,0⟩) 33):=by
 have hx:(w.alloc (.cells (insc ⟨22,0,0,0,0⟩) 33)).heap[w.heap.size]? =some (.cells (insc ⟨22,0,0,0,0⟩) 33 (0,0)):=by simp
 have LA:hasA 22=false:=by decide
 have LB:hasB 22=false:=by decide
 have LC:hasC 22=false:=by decide
 have LI:hasI 22=false:=by decide
 go_enter Tryz.func75,Tryz.ntmps75
 try dsimp only [List.append]
 go_wp2_with (first |(go_at_call 122;(with_reducible refine (rhas_A 22 (by omega) (by omega) _).mono ?_);rintro e w' ⟨rfl,rfl⟩)|(go_at_call 122;(with_reducible refine (rhas_B 22 (by omega) (by omega) _).mono ?_);rintro e w' ⟨rfl,rfl⟩)|(go_at_call 122;(with_reducible refine (rhas_C 22 (by omega) (by omega) _).mono ?_);rintro e w' ⟨rfl,rfl⟩)|(go_at_call 122;(with_reducible refine (rhas_I 22 (by omega) (by omega) _).mono ?_);rintro e w' ⟨rfl,rfl⟩))
 go_ret
 exact ⟨rfl,rfl⟩
end
section
theorem rgood_all (i:Ins) (h:goodI i=true) (w:World):Calls Tryz.prog 75 #[.agg (insc i)] w fun e w'=>e=.returned (.bool true)∧w'=w.alloc (.cells (insc i) 33):=by
 obtain ⟨op,a,b,c,m⟩:=i
 have hop:=(goodI_parts h).1
 simp only [goodI,Bool.and_eq_true] at h
 obtain ⟨_,ha,hb,hc,hm⟩:=h
 simp only at hop ha hb hc hm
 have h:op=0∨op=1∨op=2∨op=3∨op=4∨op=5∨op=6∨op=7∨op=8∨op=9∨op=10∨op=11∨op=12∨op=13∨op=14∨op=15∨op=16∨op=17∨op=18∨op=19∨op=20∨op=21∨op=22:=by omega
 clear hop
 rcases h with rfl|rfl|rfl|rfl|rfl|rfl|rfl|rfl|rfl|rfl|rfl|rfl|rfl|rfl|rfl|rfl|rfl|rfl|rfl|rfl|rfl|rfl|rfl
 ·rw [show hasA 0=false by decide] at ha
  obtain rfl:a=0:=by simpa [goodR] using ha
  rw [show hasB 0=false by decide] at hb
  obtain rfl:b=0:=by simpa [goodR] using hb
  rw [show hasC 0=false by decide] at hc
  obtain rfl:c=0:=by simpa [goodR] using hc
  unfold goodM goodMb at hm
  rw [show hasI 0=false by decide,show jumpB 0=false by decide] at hm
  obtain rfl:m=0:=by simpa using hm
  exact rgood_0 w
 ·rw [show hasA 1=true by decide] at ha
  have ha':=goodR_le ha
  rw [show hasB 1=false by decide] at hb
  obtain rfl:b=0:=by simpa [goodR] using hb
  rw [show hasC 1=false by decide] at hc
  obtain rfl:c=0:=by simpa [goodR] using hc
  unfold goodM goodMb at hm
  rw [show hasI 1=true by decide,show jumpB 1=false by decide] at hm
  have hm': -2147483648≤m∧m≤2147483647:=by simp at hm;omega
  exact rgood_1 a m ha' hm' w
 ·rw [show hasA 2=true by decide] at ha
  have ha':=goodR_le ha
  rw [show hasB 2=true by decide] at hb
  have hb':=goodR_le hb
  rw [show hasC 2=true by decide] at hc
  have hc':=goodR_le hc
  unfold goodM goodMb at hm
  rw [show hasI 2=false by decide,show jumpB 2=false by decide] at hm
  obtain rfl:m=0:=by simpa using hm
  exact rgood_2 a b c ha' hb' hc' w
 ·rw [show hasA 3=true by decide] at ha
  have ha':=goodR_le ha
  rw [show hasB 3=true by decide] at hb
  have hb':=goodR_le hb
  rw [show hasC 3=true by decide] at hc
  have hc':=goodR_le hc
  unfold goodM goodMb at hm
  rw [show hasI 3=false by decide,show jumpB 3=false by decide] at hm
  obtain rfl:m=0:=by simpa using hm
  exact rgood_3 a b c ha' hb' hc' w
 ·rw [show hasA 4=true by decide] at ha
  have ha':=goodR_le ha
  rw [show hasB 4=true by decide] at hb
  have hb':=goodR_le hb
  rw [show hasC 4=true by decide] at hc
  have hc':=goodR_le hc
  unfold goodM goodMb at hm
  rw [show hasI 4=false by decide,show jumpB 4=false by decide] at hm
  obtain rfl:m=0:=by simpa using hm
  exact rgood_4 a b c ha' hb' hc' w
 ·rw [show hasA 5=true by decide] at ha
  have ha':=goodR_le ha
  rw [show hasB 5=true by decide] at hb
  have hb':=goodR_le hb
  rw [show hasC 5=true by decide] at hc
  have hc':=goodR_le hc
  unfold goodM goodMb at hm
  rw [show hasI 5=false by decide,show jumpB 5=false by decide] at hm
  obtain rfl:m=0:=by simpa using hm
  exact rgood_5 a b c ha' hb' hc' w
 ·rw [show hasA 6=true by decide] at ha
  have ha':=goodR_le ha
  rw [show hasB 6=true by decide] at hb
  have hb':=goodR_le hb
  rw [show hasC 6=true by decide] at hc
  have hc':=goodR_le hc
  unfold goodM goodMb at hm
  rw [show hasI 6=false by decide,show jumpB 6=false by decide] at hm
  obtain rfl:m=0:=by simpa using hm
  exact rgood_6 a b c ha' hb' hc' w
 ·rw [show hasA 7=true by decide] at ha
  have ha':=goodR_le ha
  rw [show hasB 7=true by decide] at hb
  have hb':=goodR_le hb
  rw [show hasC 7=true by decide] at hc
  have hc':=goodR_le hc
  unfold goodM goodMb at hm
  rw [show hasI 7=false by decide,show jumpB 7=false by decide] at hm
  obtain rfl:m=0:=by simpa using hm
  exact rgood_7 a b c ha' hb' hc' w
 ·rw [show hasA 8=true by decide] at ha
  have ha':=goodR_le ha
  rw [show hasB 8=true by decide] at hb
  have hb':=goodR_le hb
  rw [show hasC 8=false by decide] at hc
  obtain rfl:c=0:=by simpa [goodR] using hc
  unfold goodM goodMb at hm
  rw [show hasI 8=true by decide,show jumpB 8=false by decide] at hm
  have hm': -2147483648≤m∧m≤2147483647:=by simp at hm;omega
  exact rgood_8 a b m ha' hb' hm' w
 ·rw [show hasA 9=true by decide] at ha
  have ha':=goodR_le ha
  rw [show hasB 9=true by decide] at hb
  have hb':=goodR_le hb
  rw [show hasC 9=false by decide] at hc
  obtain rfl:c=0:=by simpa [goodR] using hc
  unfold goodM goodMb at hm
  rw [show hasI 9=true by decide,show jumpB 9=false by decide] at hm
  have hm': -2147483648≤m∧m≤2147483647:=by simp at hm;omega
  exact rgood_9 a b m ha' hb' hm' w
 ·rw [show hasA 10=true by decide] at ha
  have ha':=goodR_le ha
  rw [show hasB 10=true by decide] at hb
  have hb':=goodR_le hb
  rw [show hasC 10=true by decide] at hc
  have hc':=goodR_le hc
  unfold goodM goodMb at hm
  rw [show hasI 10=false by decide,show jumpB 10=false by decide] at hm
  obtain rfl:m=0:=by simpa using hm
  exact rgood_10 a b c ha' hb' hc' w
 ·rw [show hasA 11=true by decide] at ha
  have ha':=goodR_le ha
  rw [show hasB 11=true by decide] at hb
  have hb':=goodR_le hb
  rw [show hasC 11=true by decide] at hc
  have hc':=goodR_le hc
  unfold goodM goodMb at hm
  rw [show hasI 11=false by decide,show jumpB 11=false by decide] at hm
  obtain rfl:m=0:=by simpa using hm
  exact rgood_11 a b c ha' hb' hc' w
 ·rw [show hasA 12=false by decide] at ha
  obtain rfl:a=0:=by simpa [goodR] using ha
  rw [show hasB 12=true by decide] at hb
  have hb':=goodR_le hb
  rw [show hasC 12=false by decide] at hc
  obtain rfl:c=0:=by simpa [goodR] using hc
  unfold goodM goodMb at hm
  rw [show hasI 12=true by decide,show jumpB 12=false by decide] at hm
  have hm': -2147483648≤m∧m≤2147483647:=by simp at hm;omega
  exact rgood_12 b m hb' hm' w
 ·rw [show hasA 13=false by decide] at ha
  obtain rfl:a=0:=by simpa [goodR] using ha
  rw [show hasB 13=true by decide] at hb
  have hb':=goodR_le hb
  rw [show hasC 13=false by decide] at hc
  obtain rfl:c=0:=by simpa [goodR] using hc
  unfold goodM goodMb at hm
  rw [show hasI 13=true by decide,show jumpB 13=false by decide] at hm
  have hm': -2147483648≤m∧m≤2147483647:=by simp at hm;omega
  exact rgood_13 b m hb' hm' w
 ·rw [show hasA 14=false by decide] at ha
  obtain rfl:a=0:=by simpa [goodR] using ha
  rw [show hasB 14=true by decide] at hb
  have hb':=goodR_le hb
  rw [show hasC 14=false by decide] at hc
  obtain rfl:c=0:=by simpa [goodR] using hc
  unfold goodM goodMb at hm
  rw [show hasI 14=true by decide,show jumpB 14=false by decide] at hm
  have hm': -2147483648≤m∧m≤2147483647:=by simp at hm;omega
  exact rgood_14 b m hb' hm' w
 ·rw [show hasA 15=false by decide] at ha
  obtain rfl:a=0:=by simpa [goodR] using ha
  rw [show hasB 15=false by decide] at hb
  obtain rfl:b=0:=by simpa [goodR] using hb
  rw [show hasC 15=false by decide] at hc
  obtain rfl:c=0:=by simpa [goodR] using hc
  unfold goodM goodMb at hm
  rw [show hasI 15=false by decide,show jumpB 15=false by decide] at hm
  obtain rfl:m=0:=by simpa using hm
  exact rgood_15 w
 ·rw [show hasA 16=false by decide] at ha
  obtain rfl:a=0:=by simpa [goodR] using ha
  rw [show hasB 16=false by decide] at hb
  obtain rfl:b=0:=by simpa [goodR] using hb
  rw [show hasC 16=false by decide] at hc
  obtain rfl:c=0:=by simpa [goodR] using hc
  unfold goodM goodMb at hm
  rw [show hasI 16=false by decide,show jumpB 16=false by decide] at hm
  obtain rfl:m=0:=by simpa using hm
  exact rgood_16 w
 ·rw [show hasA 17=false by decide] at ha
  obtain rfl:a=0:=by simpa [goodR] using ha
  rw [show hasB 17=false by decide] at hb
  obtain rfl:b=0:=by simpa [goodR] using hb
  rw [show hasC 17=false by decide] at hc
  obtain rfl:c=0:=by simpa [goodR] using hc
  unfold goodM goodMb at hm
  rw [show hasI 17=true by decide,show jumpB 17=true by decide] at hm
  have hm':0≤m∧m≤2147483647:=by simp at hm;omega
  exact rgood_17 m hm' w
 ·rw [show hasA 18=true by decide] at ha
  have ha':=goodR_le ha
  rw [show hasB 18=true by decide] at hb
  have hb':=goodR_le hb
  rw [show hasC 18=false by decide] at hc
  obtain rfl:c=0:=by simpa [goodR] using hc
  unfold goodM goodMb at hm
  rw [show hasI 18=true by decide,show jumpB 18=true by decide] at hm
  have hm':0≤m∧m≤2147483647:=by simp at hm;omega
  exact rgood_18 a b m ha' hb' hm' w
 ·rw [show hasA 19=true by decide] at ha
  have ha':=goodR_le ha
  rw [show hasB 19=true by decide] at hb
  have hb':=goodR_le hb
  rw [show hasC 19=false by decide] at hc
  obtain rfl:c=0:=by simpa [goodR] using hc
  unfold goodM goodMb at hm
  rw [show hasI 19=true by decide,show jumpB 19=true by decide] at hm
  have hm':0≤m∧m≤2147483647:=by simp at hm;omega
  exact rgood_19 a b m ha' hb' hm' w
 ·rw [show hasA 20=true by decide] at ha
  have ha':=goodR_le ha
  rw [show hasB 20=true by decide] at hb
  have hb':=goodR_le hb
  rw [show hasC 20=false by decide] at hc
  obtain rfl:c=0:=by simpa [goodR] using hc
  unfold goodM goodMb at hm
  rw [show hasI 20=true by decide,show jumpB 20=true by decide] at hm
  have hm':0≤m∧m≤2147483647:=by simp at hm;omega
  exact rgood_20 a b m ha' hb' hm' w
 ·rw [show hasA 21=true by decide] at ha
  have ha':=goodR_le ha
  rw [show hasB 21=false by decide] at hb
  obtain rfl:b=0:=by simpa [goodR] using hb
  rw [show hasC 21=false by decide] at hc
  obtain rfl:c=0:=by simpa [goodR] using hc
  unfold goodM goodMb at hm
  rw [show hasI 21=false by decide,show jumpB 21=false by decide] at hm
  obtain rfl:m=0:=by simpa using hm
  exact rgood_21 a ha' w
 ·rw [show hasA 22=false by decide] at ha
  obtain rfl:a=0:=by simpa [goodR] using ha
  rw [show hasB 22=false by decide] at hb
  obtain rfl:b=0:=by simpa [goodR] using hb
  rw [show hasC 22=false by decide] at hc
  obtain rfl:c=0:=by simpa [goodR] using hc
  unfold goodM goodMb at hm
  rw [show hasI 22=false by decide,show jumpB 22=false by decide] at hm
  obtain rfl:m=0:=by simpa using hm
  exact rgood_22 w
theorem sum_code {i:Ins} (h:(0≤i.op∧i.op≤22)∧(0≤i.a∧i.a<8)∧(0≤i.b∧i.b<8)∧(0≤i.c∧i.c<8)∧ -2147483648≤i.im∧i.im≤2147483647) (m:Int) (hm:m % 4294967296=i.im % 4294967296):
 IntKind.u64.wrap (IntKind.u64.wrap (IntKind.u64.wrap (IntKind.u64.wrap (IntKind.u64.wrap i.op+IntKind.u64.wrap (IntKind.u64.wrap i.a*256))+IntKind.u64.wrap (IntKind.u64.wrap i.b*4096))+IntKind.u64.wrap (IntKind.u64.wrap i.c*65536))+IntKind.u64.wrap (IntKind.u64.wrap m*4294967296))=codeI i:=by
 simp only [u64_w]
 unfold codeI
 omega
theorem sum_code2 {i:Ins} (h:(0≤i.op∧i.op≤22)∧(0≤i.a∧i.a<8)∧(0≤i.b∧i.b<8)∧(0≤i.c∧i.c<8)∧ -2147483648≤i.im∧i.im≤2147483647) (m:Int) (hm:m % 4294967296=i.im % 4294967296):
 IntKind.u64.wrap (IntKind.u64.wrap (IntKind.u64.wrap (IntKind.u64.wrap (IntKind.u64.wrap i.op+IntKind.u64.wrap (IntKind.u64.wrap i.a*256))+IntKind.u64.wrap (IntKind.u64.wrap i.b*4096))+IntKind.u64.wrap (IntKind.u64.wrap i.c*65536))+IntKind.u64.wrap (m*4294967296))=codeI i:=by
 simp only [u64_w]
 unfold codeI
 omega
theorem rencode (i:Ins) (h:goodI i=true) (w:World):Calls Tryz.prog 39 #[.agg (insc i)] w fun e w'=>e=.returned (.tuple #[.int .u64 (codeI i),.int .i64 0])∧Chg [] w w':=by
 have ⟨h1,h2,h3,h4,h5⟩:=goodI_parts h
 have hx:(w.alloc (.cells (insc i) 33)).heap[w.heap.size]? =some (.cells (insc i) 33 (0,0)):=by simp
 have HC:=Lib.hid ((Chg.refl [] w).alloc (.cells (insc i) 33))
 have HG:=Lib.hid (fun w=>rgood_all i h w)
 have HB:=Lib.hid (show (0≤i.op∧i.op≤22)∧(0≤i.a∧i.a<8)∧(0≤i.b∧i.b<8)∧(0≤i.c∧i.c<8)∧ -2147483648≤i.im∧i.im≤2147483647 from ⟨h1,h2,h3,h4,h5⟩)
 have k1: -2147483648≤i.im:=h5.1
 have k2:i.im≤2147483647:=h5.2
 clear h h1 h2 h3 h4 h5
 cases hn:decide (i.im<0)
 all_goals
  go_enter Tryz.func39,Tryz.ntmps39
  go_wp2_with fail
  generalize hw1:w.alloc (.cells (insc i) 33)=w1 at hx HC ⊢
  generalize hz:w.heap.size=p at hx ⊢
  refine (HG.out w1).mono ?_
  rintro e w2 ⟨rfl,rfl⟩
  have hx2:=((Chg.refl [] w1).alloc (.cells (insc i) 33)).keep hx (by simp)
  have HC2:=Lib.hid (HC.out.alloc (.cells (insc i) 33))
  have ox:=old hx
  clear hw1 hz
  go_wp2_with fail
  go_ret2
  refine ⟨?_,HC2.out⟩
  first
   |(rw [sum_code HB.out i.im rfl];rfl)
   |(rw [sum_code2 HB.out (i.im+4294967296) (by omega)];rfl)
end
end Go.Proofs.YtcjoinhngdfdmaaGreatDoor
namespace Go.Proofs.YtcjoinhngdfdmaaGreatDoor
open Go.RowKit
set_option linter.unusedVariables false
set_option maxHeartbeats 1000000
set_option maxRecDepth 100000
section
structure Stc where
 u:Int
 d:Int
 m:Int
 s:Int
 i:Ins
 g:Bool
def Stc.enc (x:Stc):List Value:=.int .u64 x.u::.int .u32 x.d::.int .i32 x.m::.int .u32 x.s::(Ins.enc x.i++[.bool x.g])
theorem Stc.len (x:Stc):(Stc.enc x).length=10:=rfl
def stp (x:Int×Bool):Stc:=⟨x.1,stD x,0,0,stI x,stG x⟩
theorem splice_left {α:Type} (A ys vs:List α) (o:Nat):splice (A++ys) (A.length+o) vs=A++splice ys o vs:=by
 unfold splice
 rw [List.take_append,List.take_of_length_le (by omega),Nat.add_sub_cancel_left,List.drop_append,List.drop_eq_nil_of_le (by omega),List.nil_append]
 rw [show A.length+o+vs.length-A.length=o+vs.length by omega]
 simp
section
variable {α:Type} {enc:α→List Value} {k:Nat}
theorem sq_put13 (hk:∀a,(enc a).length=k) {xs:List α} {n:Nat} {x:α} (y:α) (h:xs[n]? =some x) (r:List Value) (o:Nat) (vs:List Value) (ho:o+vs.length≤k) (hy:enc y=splice (enc x) o vs):
 splice (sq enc xs r).toList (n*k+o) vs=(sq enc (xs.set n y) r).toList:=by
 obtain ⟨hn,rfl⟩:=List.getElem?_eq_some_iff.1 h
 have e1:xs=xs.take n++xs[n]::xs.drop (n+1):=by rw [←List.drop_eq_getElem_cons hn,List.take_append_drop]
 have e2:xs.set n y=xs.take n++y::xs.drop (n+1):=List.set_eq_take_append_cons_drop.trans (if_pos hn)
 have e3:(cat enc (xs.take n)).length=n*k:=by rw [cat_length hk,List.length_take,Nat.min_eq_left (by omega)]
 rw [sq_toList,sq_toList,e2]
 conv=>lhs;rw [e1]
 rw [cat_append,cat_append,cat_cons,cat_cons,List.append_assoc,List.append_assoc,←e3,splice_left,List.append_assoc,splice_append _ _ _ _ (by rw [hk];exact ho),←hy,List.append_assoc]
theorem sq_putRow13 (hk:∀a,(enc a).length=k) {xs:List α} {n:Nat} {x:α} (y:α) (h:xs[n]? =some x) (r:List Value) (o:Nat) (vs:Array Value) (ho:o+vs.size≤k) (hy:enc y=splice (enc x) o vs.toList) (t:TypeId) (f:Nat×Nat):
 rowPut (some (.cells (sq enc xs r) t f)) (n*k+o) vs=some (.cells (sq enc (xs.set n y) r) t f):=by
 rw [rowPut_some,sq_put13 hk y h r o vs.toList (by simpa using ho) hy,Array.toArray_toList]
theorem sq_setCell13 (hk:∀a,(enc a).length=k) {xs:List α} {n:Nat} {x:α} (y:α) (h:xs[n]? =some x) (r:List Value) (o:Nat) (v:Value) (ho:o<k) (hy:enc y=(enc x).set o v) (t:TypeId) (f:Nat×Nat):
 rowSet (some (.cells (sq enc xs r) t f)) (n*k+o) v=some (.cells (sq enc (xs.set n y) r) t f):=by
 obtain ⟨hn,hx⟩:=List.getElem?_eq_some_iff.1 h
 have hm:=mul_lt_of (k:=k) hn
 have hl:n*k+o<(sq enc xs r).toList.length:=by rw [Array.length_toList,sq_size hk];omega
 have e:∀(l:List Value) (j:Nat),j<l.length→splice l j [v]=l.set j v:=by
  intro l j hj
  rw [List.set_eq_take_append_cons_drop,if_pos hj]
  simp [splice]
 have:=sq_put13 hk y h r o [v] (by simp;omega) (by rw [hy,e _ _ (by rw [hk];exact ho)])
 rw [e _ _ hl] at this
 rw [rowSet_some]
 congr 2
 apply Array.toList_inj.1
 rw [Array.toList_setIfInBounds,this]
theorem sq_hasAt13 (hk:∀a,(enc a).length=k) {xs:List α} {n:Nat} (hn:n<xs.length) (r:List Value) (t:TypeId) (o m:Nat) (hm:o+m≤k):
 rowHas (some (.cells (sq enc xs r) t (0,0))) (n*k+o) m=true:=by
 have h1:=mul_lt_of (k:=k) hn
 rw [rowHas_some,sq_size hk]
 exact decide_eq_true (show _≤_ by omega)
end
def Sts (w:World) (b:Nat) (xs:List Stc):Prop:=w.heap[b]? =some (.cells (sq Stc.enc xs []) 169 (0,0))
section
variable {w:World} {b n:Nat} {xs:List Stc} {x:Stc} (h:Sts w b xs) (hx:xs[n]? =some x)
include h
theorem Sts.keep {w':World} {l:List Nat} (hc:Chg l w w') (hb:b∉l):Sts w' b xs:=hc.keep h hb
theorem Sts.fz (o:Nat):w.frozen? ⟨b,o,none⟩=false:=by rw [frozen_row,show w.heap[b]? =_ from h,rowFrozen_some]
include hx
theorem Sts.cell (o:Nat) (ho:o<10):w.cell? ⟨b,n*10+o,none⟩=(Stc.enc x)[o]?:=by
 rw [cell_row,show w.heap[b]? =_ from h,rowCell_some,sq_cell Stc.len hx [] o ho]
theorem Sts.done:w.cell? ⟨b,n*10+1,none⟩=some (.int .u32 x.d):=h.cell hx 1 (by omega)
theorem Sts.lock:w.cell? ⟨b,n*10+2,none⟩=some (.int .i32 x.m):=h.cell hx 2 (by omega)
theorem Sts.setDone (v:Int):Sts (w.setCell ⟨b,n*10+1,none⟩ (.int .u32 v)) b (xs.set n {x with d:=v}):=by
 unfold Sts
 rw [heap_setCell,if_pos rfl,show w.heap[b]? =_ from h]
 exact sq_setCell13 Stc.len {x with d:=v} hx [] 1 _ (by omega) rfl _ _
theorem Sts.setLock (v:Int):Sts (w.setCell ⟨b,n*10+2,none⟩ (.int .i32 v)) b (xs.set n {x with m:=v}):=by
 unfold Sts
 rw [heap_setCell,if_pos rfl,show w.heap[b]? =_ from h]
 exact sq_setCell13 Stc.len {x with m:=v} hx [] 2 _ (by omega) rfl _ _
end
theorem Sts.drew {w:World} {b:Nat} {xs:List Stc} (h:Sts w b xs):Sts w.drew b xs:=h
theorem odisable (w:World):(callFunc 204 #[]).run Tryz.prog w=.ok (.value (.tuple #[])) w:=run_call_mark0 Tryz.func204 (by kernel_rfl) (by kernel_rfl) (by kernel_rfl) .disable (by kernel_rfl) w
theorem oenable (w:World):(callFunc 206 #[]).run Tryz.prog w=.ok (.value (.tuple #[])) w:=run_call_mark0 Tryz.func206 (by kernel_rfl) (by kernel_rfl) (by kernel_rfl) .enable (by kernel_rfl) w
theorem oacquire (a:Addr) (w:World):(callFunc 207 #[.pointer (some a)]).run Tryz.prog w=.ok (.value (.tuple #[])) w:=run_call_marked Tryz.func207 (by kernel_rfl) (by kernel_rfl) (by kernel_rfl) .acquire (by kernel_rfl) a w
theorem oreleaseMerge (a:Addr) (w:World):(callFunc 209 #[.pointer (some a)]).run Tryz.prog w=.ok (.value (.tuple #[])) w:=run_call_marked Tryz.func209 (by kernel_rfl) (by kernel_rfl) (by kernel_rfl) .releaseMerge (by kernel_rfl) a w
theorem ostore (a:Addr) (x:Value) (u:FrameMode) (w:World) (hc:w.cell? a=some x) (hz:w.frozen? a=false):
 CallsD Tryz.prog 189 #[.pointer (some a),.bool true] u w fun e u' w'=>u'=u∧(e=.returned (.tuple #[])∧w'=w.drew.setCell a (.int .u32 1)):=by
 have hc':w.drew.cell? a=some x:=by go_simp
 have hz':w.drew.frozen? a=false:=by go_simp
 have hst:=run_call_store (P:=Tryz.prog) Tryz.func197 (by kernel_rfl) (by kernel_rfl) (by kernel_rfl) (by kernel_rfl) (k:=.u32) (y:=1) hc' hz'
 go_enter_d Tryz.func189,Tryz.ntmps189
 go_wp2
 go_region_calls
 all_goals (go_end0;exact ⟨rfl,rfl⟩)
theorem ounlock1 (a:Addr) (w:World) (hc:w.cell? a=some (.int .i32 1)) (hz:w.frozen? a=false):
 Calls Tryz.prog 196 #[.pointer (some a)] w fun e w'=>e=.returned (.tuple #[])∧w'=w.setCell a (.int .i32 0):=by
 have hd:=odisable
 have he:=oenable
 have hr:=oreleaseMerge
 have hadd:=run_call_add (P:=Tryz.prog) Tryz.func210 (by kernel_rfl) (by kernel_rfl) (by kernel_rfl) .i32 (by kernel_rfl) (y:= -1) (s:=0) hc hz (by simp [go_sem];rfl)
 have hcv:=run_convert_to_unsafe (P:=Tryz.prog) (src:=285) (dst:=289) Tryz.underlying285 Tryz.underlying289 (by kernel_rfl) hc
 go_enter Tryz.func196,Tryz.ntmps196
 go_wp2
 go_end0
 go_wp2
theorem ounlock (a:Addr) (u:FrameMode) (w:World) (hc:w.cell? a=some (.int .i32 1)) (hz:w.frozen? a=false):
 CallsD Tryz.prog 188 #[.pointer (some a)] u w fun e u' w'=>u'=u∧(e=.returned (.tuple #[])∧w'=w.setCell a (.int .i32 0)):=by
 have h1:=ounlock1 a w hc hz
 have H1:=Lib.hid h1
 clear h1 hc hz
 go_enter_d Tryz.func188,Tryz.ntmps188
 go_wp2_with (go_at_call 196;refine H1.out.mono ?_;rintro e w' ⟨rfl,rfl⟩)
 go_end0
 exact ⟨rfl,rfl⟩
theorem olock1 (a:Addr) (w:World) (hc:w.cell? a=some (.int .i32 0)) (hz:w.frozen? a=false):
 Calls Tryz.prog 195 #[.pointer (some a)] w fun e w'=>e=.returned (.tuple #[])∧w'=w.setCell a (.int .i32 1):=by
 have hd:=odisable
 have he:=oenable
 have ha:=oacquire
 have hcas:=run_call_cas_hit (P:=Tryz.prog) Tryz.func205 (by kernel_rfl) (by kernel_rfl) (by kernel_rfl) .i32 (by kernel_rfl) (y:=1) hc hz
 have hc':(w.setCell a (.int .i32 1)).cell? a=some (.int .i32 1):=World.cell?_setCell_same w a _ hc
 have hcv:=run_convert_to_unsafe (P:=Tryz.prog) (src:=285) (dst:=289) Tryz.underlying285 Tryz.underlying289 (by kernel_rfl) hc'
 go_enter Tryz.func195,Tryz.ntmps195
 go_wp2
 first |go_end0|(simp only [Exit.inBlock,Exit.then];refine bodyPost_ret (results_none rfl _ _ _) rfl ?_)|refine bodyPost_ret (results_none rfl _ _ _) rfl ?_
 go_wp2
theorem olock (a:Addr) (w:World) (hc:w.cell? a=some (.int .i32 0)) (hz:w.frozen? a=false):
 Calls Tryz.prog 187 #[.pointer (some a)] w fun e w'=>e=.returned (.tuple #[])∧w'=w.setCell a (.int .i32 1):=by
 have h1:=olock1 a w hc hz
 have H1:=Lib.hid h1
 clear h1 hc hz
 go_enter Tryz.func187,Tryz.ntmps187
 go_wp2_with (go_at_call 195;refine H1.out.mono ?_;rintro e w' ⟨rfl,rfl⟩)
 go_end0
 exact ⟨rfl,rfl⟩
theorem oload (a:Addr) (d:Int) (w:World) (hc:w.cell? a=some (.int .u32 d)):
 Calls Tryz.prog 170 #[.pointer (some a)] w fun e w'=>e=.returned (.bool (d !=0))∧w=w':=by
 have hl:=run_call_load (P:=Tryz.prog) Tryz.func186 (by kernel_rfl) (by kernel_rfl) (by kernel_rfl) .u32 (by kernel_rfl) hc
 go_enter Tryz.func170,Tryz.ntmps170
 go_wp2
 go_ret
 exact ⟨rfl,rfl⟩
attribute [local go_sem ↓] cell_row frozen_row heap_drew heap_drewN heap_alloc heap_past heap_setCell heap_putRow loadIns storeIns insc_op insc_a insc_b insc_c insc_im
attribute [local go_sem] rowCell_some rowFrozen_some rowHas_some rowIn_some rowPart_full rowPut_full rowSet_some run_loadS run_storeS loadW_at storeW_at fit_all fit_le one_int one_bool one_pointer one_slice allOne_list putRow_new ne_size1 ne_size2 wideIns insc_size insc_one insc_ne insc_lit insc_z insc_set0 insc_set1 insc_set2 insc_set3 insc_set4
attribute [local simp ↓] heap_drew heap_drewN heap_alloc heap_past heap_setCell heap_putRow
attribute [local simp] rowCell_some rowFrozen_some rowHas_some rowIn_some rowPart_full rowPut_full rowSet_some fit_all putRow_new ne_size1 ne_size2 insc_size fit_le
theorem odecode {w:World} {b n:Nat} {xs:List Stc} {x:Stc} (h:Sts w b xs) (hx:xs[n]? =some x) (h0:0≤x.u) (h64:x.u<18446744073709551616):
 Calls Tryz.prog 126 #[.pointer (some ⟨b,n*10,none⟩)] w fun e w'=>e=.returned (.tuple #[])∧Chg [b] w w'∧Sts w' b (xs.set n {x with i:=decI x.u,g:=decB x.u}):=by
 have hn:=(List.getElem?_eq_some_iff.1 hx).1
 have hc0:(sq Stc.enc xs [])[n*10]? =some (.int .u64 x.u):=sq_cell Stc.len hx [] 0 (by omega)
 have hr:rowHas (some (.cells (sq Stc.enc xs []) 169 (0,0))) (n*10+4) 5=true:=sq_hasAt13 Stc.len hn _ _ _ _ (by omega)
 have hp:=sq_putRow13 Stc.len {x with i:=decI x.u} hx [] 4 (insc (decI x.u)) (by rw [insc_size];omega) rfl 169 (0,0)
 have hx2:(xs.set n {x with i:=decI x.u})[n]? =some {x with i:=decI x.u}:=by rw [List.getElem?_set_self hn]
 have hc9:(sq Stc.enc (xs.set n {x with i:=decI x.u}) [])[n*10+9]? =some (.bool x.g):=sq_cell Stc.len hx2 [] 9 (by omega)
 have hs:=sq_setCell13 Stc.len {x with i:=decI x.u,g:=decB x.u} hx2 [] 9 (.bool (decB x.u)) (by omega) rfl 169 (0,0)
 rw [List.set_set] at hs
 have HS:=Lib.hid hs
 have HD:=Lib.hid (fun w=>idecode x.u h0 h64 w)
 have hg:((if decB x.u=true then (0:Int) else 11)==0)=decB x.u:=by cases decB x.u<;>rfl
 generalize (if decB x.u=true then (0:Int) else 11)=er at HD hg
 generalize decI x.u=ii at *
 generalize decB x.u=gg at *
 generalize xs.set n {x with i:=ii}=xs2 at hp hc9 HS
 generalize hxg:x.g=xg at hc9
 generalize x.u=xu at *
 have hb:w.heap[b]? =some (.cells (sq Stc.enc xs []) 169 (0,0)):=h
 have ob:Old w b:=old h
 clear h hx hn hx2 hs hxg h0 h64
 go_enter Tryz.func126,Tryz.ntmps126
 go_wp2_with fail
 refine (HD.out w).mono ?_
 rintro e w1 ⟨rfl,c1⟩
 have hb1:=c1.keep hb (by simp)
 have HC1:=Lib.hid c1
 have ob1:=ob.chg c1
 clear c1 hb hc0
 go_wp2_with fail
 go_end0
 refine ⟨rfl,(((HC1.out.mono (l':=[b]) (by simp)).alloc _).putRow b _ _ (.inl (by simp))).setCell b _ _ (.inl (by simp)),?_⟩
 unfold Sts
 rw [heap_setCell,if_pos rfl,heap_putRow _ _ _ _ _ (by simp [hb1,hr,insc_size]),if_pos rfl]
 simp only [heap_alloc,hb1,Option.some_or,hp]
 exact HS.out
def readS (x:Stc):Stc:={x with d:=1,i:=decI x.u,g:=decB x.u}
set_option maxHeartbeats 2000000 in
theorem oslow {w:World} {b n:Nat} {xs:List Stc} {x:Stc} (h:Sts w b xs) (hx:xs[n]? =some x) (hd:x.d=0) (hm:x.m=0) (h0:0≤x.u) (h64:x.u<18446744073709551616):
 Calls Tryz.prog 171 #[.pointer (some ⟨b,n*10+1,none⟩),.func (.func 126) #[.pointer (some ⟨b,n*10,none⟩)] #[]] w fun e w'=>e=.returned (.tuple #[])∧Chg [b] w w'∧Sts w' b (xs.set n (readS x)):=by
 have hn:=(List.getElem?_eq_some_iff.1 hx).1
 have L1:=olock ⟨b,n*10+2,none⟩ w (by rw [h.lock hx,hm]) (h.fz 2 |> fun _=>h.fz (n*10+2))
 have s1:=h.setLock hx 1
 have hx1:(xs.set n {x with m:=1})[n]? =some {x with m:=1}:=List.getElem?_set_self hn
 have c1:Chg [b] w (w.setCell ⟨b,n*10+2,none⟩ (.int .i32 1)):=(Chg.refl [b] w).setCell b _ _ (.inl (by simp))
 have HL:=Lib.hid L1
 have H1:=Lib.hid s1
 have HX1:=Lib.hid hx1
 have HC1:=Lib.hid c1
 have L2:=Lib.hid (oload ⟨b,n*10+1,none⟩ 0 (w.setCell ⟨b,n*10+2,none⟩ (.int .i32 1)) (by rw [s1.done hx1];show some (Value.int .u32 x.d)=_;rw [hd]))
 have HD:=Lib.hid (odecode s1 hx1 h0 h64)
 have HN:=Lib.hid hn
 have H:=Lib.hid h
 have HX:=Lib.hid hx
 have HM:=Lib.hid hm
 have HDD:=Lib.hid hd
 clear h hx hd hm h0 h64 hn L1 s1 hx1 c1
 generalize w.setCell ⟨b,n*10+2,none⟩ (.int .i32 1)=w1 at *
 go_enter_defers Tryz.func171,Tryz.ntmps171
 go_wp2_with (first |(go_at_call 187;refine HL.out.mono ?_;rintro e w' ⟨rfl,rfl⟩)|(go_at_call 170;refine L2.out.mono ?_;rintro e w' ⟨rfl,rfl⟩)|(go_at_call 126;refine HD.out.mono ?_;rintro e w2 ⟨rfl,c2,s2⟩;have HS2:=Lib.hid s2;have HC2:=Lib.hid c2;clear s2 c2))
 have hx2:((xs.set n {x with m:=1}).set n {x with m:=1,i:=decI x.u,g:=decB x.u})[n]? =some {x with m:=1,i:=decI x.u,g:=decB x.u}:=List.getElem?_set_self (by rw [List.length_set];exact HN.out)
 have s2:=HS2.out
 rw [List.set_set] at s2 hx2
 have s3:=s2.drew.setDone hx2 1
 have hx3:((xs.set n {x with m:=1,i:=decI x.u,g:=decB x.u}).set n {x with m:=1,i:=decI x.u,g:=decB x.u,d:=1})[n]? =some {x with m:=1,i:=decI x.u,g:=decB x.u,d:=1}:=List.getElem?_set_self (by rw [List.length_set];exact HN.out)
 have s4:=s3.setLock hx3 0
 have o1:=Lib.hid (fun u=>ostore ⟨b,n*10+1,none⟩ _ u w2 (s2.done hx2) (s2.fz _))
 have o2:=Lib.hid (fun u=>ounlock ⟨b,n*10+2,none⟩ u (w2.drew.setCell ⟨b,n*10+1,none⟩ (.int .u32 1)) (s3.lock hx3) (s3.fz _))
 have S4:=Lib.hid s4
 clear s2 hx2 s3 hx3 s4
 refine leaves_cons (f:=189) (args:=#[.pointer (some ⟨b,n*10+1,none⟩),.bool true]) (by simp) (by simp [go_sem]) ?_
 refine (o1.out .returning).mono ?_
 rintro e u' w'' ⟨rfl,rfl,rfl⟩
 refine leaves_cons (f:=188) (args:=#[.pointer (some ⟨b,n*10+2,none⟩)]) (by simp [settle]) (by simp [go_sem]) ?_
 refine (o2.out _).mono ?_
 rintro e u' w'' ⟨rfl,rfl,rfl⟩
 have hc:=(((HC1.out.trans HC2.out).drew).setCell b (n*10+1) (.int .u32 1) (.inl (by simp))).setCell b (n*10+2) (.int .i32 0) (.inl (by simp))
 have hs:Sts ((w2.drew.setCell ⟨b,n*10+1,none⟩ (.int .u32 1)).setCell ⟨b,n*10+2,none⟩ (.int .i32 0)) b (xs.set n (readS x)):=by
  have:=S4.out
  rw [List.set_set,List.set_set] at this
  rw [show readS x={x with m:=0,i:=decI x.u,g:=decB x.u,d:=1} by unfold readS;rw [←HM.out]]
  exact this
 simp [Leaves,settle,results,Tryz.results171]
 exact ⟨hc,hs⟩
theorem odo {w:World} {b n:Nat} {xs:List Stc} {x y:Stc} (h:Sts w b xs) (hx:xs[n]? =some x) (hy:(x.d=0∧x.m=0∧y=readS x)∨(x.d=1∧y=x)) (h0:0≤x.u) (h64:x.u<18446744073709551616):
 Calls Tryz.prog 125 #[.pointer (some ⟨b,n*10+1,none⟩),.func (.func 126) #[.pointer (some ⟨b,n*10,none⟩)] #[]] w fun e w'=>e=.returned (.tuple #[])∧Chg [b] w w'∧Sts w' b (xs.set n y):=by
 rcases hy with ⟨hd,hm,rfl⟩|⟨hd,rfl⟩
 ·have L:=Lib.hid (oload ⟨b,n*10+1,none⟩ 0 w (by rw [h.done hx,hd]))
  have S:=Lib.hid (oslow h hx hd hm h0 h64)
  clear h hx hd hm h0 h64
  go_enter Tryz.func125,Tryz.ntmps125
  go_wp2_with (first |(go_at_call 170;refine L.out.mono ?_;rintro e w' ⟨rfl,rfl⟩)|(go_at_call 171;refine S.out.mono ?_;rintro e w2 ⟨rfl,c2,s2⟩;have HS2:=Lib.hid s2;have HC2:=Lib.hid c2;clear s2 c2))
  go_end0
  exact ⟨rfl,HC2.out,HS2.out⟩
 ·have L:=Lib.hid (oload ⟨b,n*10+1,none⟩ 1 w (by rw [h.done hx,hd]))
  have e:xs.set n y=xs:=by
   obtain ⟨h1,h2⟩:=List.getElem?_eq_some_iff.1 hx
   rw [←h2];exact List.set_getElem_self h1
  rw [e]
  have HS:=Lib.hid h
  clear h hx hd e
  go_enter Tryz.func125,Tryz.ntmps125
  go_wp2_with (go_at_call 170;refine L.out.mono ?_;rintro e w' ⟨rfl,rfl⟩)
  go_end0
  exact ⟨rfl,Chg.refl _ _,HS.out⟩
theorem oins {w:World} {b n:Nat} {pr:List (Int×Bool)} {u:Int} {r:Bool} (h:Sts w b (pr.map stp)) (hx:pr[n]? =some (u,r)) (h0:0≤u) (h64:u<18446744073709551616):
 Calls Tryz.prog 78 #[.pointer (some ⟨b,n*10,none⟩)] w fun e w'=>e=.returned (.tuple #[.agg (insc (decI u)),.bool (decB u)])∧Chg [b] w w'∧Sts w' b ((pr.set n (u,true)).map stp):=by
 have hn:=(List.getElem?_eq_some_iff.1 hx).1
 have hx1:(pr.map stp)[n]? =some (stp (u,r)):=by rw [List.getElem?_map,hx];rfl
 have e1:(pr.map stp).set n (stp (u,true))=(pr.set n (u,true)).map stp:=by rw [List.map_set]
 have c1:Chg [] w (w.alloc (.cells (insc insZ) 33)):=(Chg.refl [] w).alloc _
 have D:=odo (h.keep c1 (by simp)) hx1 (y:=stp (u,true)) (by
  cases r
  ·exact .inl ⟨rfl,rfl,rfl⟩
  ·exact .inr ⟨rfl,rfl⟩) h0 h64
 rw [e1] at D
 have HD:=Lib.hid D
 have hx2:((pr.set n (u,true)).map stp)[n]? =some (stp (u,true)):=by rw [List.getElem?_map,List.getElem?_set_self hn];rfl
 have hr:rowIn (some (.cells (sq Stc.enc ((pr.set n (u,true)).map stp) []) 169 (0,0))) (n*10+4) 5=true:=rowIn_sq Stc.len (by rw [List.length_map,List.length_set];exact hn) _ _ _ _ _ (by omega)
 have hp:rowPart (some (.cells (sq Stc.enc ((pr.set n (u,true)).map stp) []) 169 (0,0))) (n*10+4) 5=insc (decI u):=rowPart_sq Stc.len hx2 _ _ _ 4 5 (by omega)
 have hg:(sq Stc.enc ((pr.set n (u,true)).map stp) [])[n*10+9]? =some (.bool (decB u)):=sq_cell Stc.len hx2 [] 9 (by omega)
 have HC1:=Lib.hid c1
 have oz:(w.alloc (.cells (insc insZ) 33)).heap[w.heap.size]? =some (.cells (insc insZ) 33 (0,0)):=by simp
 have hb:Old w b:=old h
 have hpb:=Lib.hid (show w.heap.size≠b from by have:=hb.lt;omega)
 clear h hx hx1 e1 c1 D hx2
 generalize (pr.set n (u,true)).map stp=ys at *
 generalize decI u=ii at *
 generalize decB u=gg at *
 go_enter Tryz.func78,Tryz.ntmps78
 go_wp2_with fail
 generalize hw1:w.alloc (.cells (insc insZ) 33)=w1 at HD HC1 oz ⊢
 generalize hz:w.heap.size=p at oz hpb ⊢
 refine HD.out.mono ?_
 rintro e w2 ⟨rfl,c2,s2⟩
 have hb2:w2.heap[b]? =some (.cells (sq Stc.enc ys []) 169 (0,0)):=s2
 have hz2:=c2.keep oz (by simpa using hpb.out)
 have HC2:=Lib.hid ((HC1.out.mono (l':=[b]) (by simp)).trans c2)
 have HS2:=Lib.hid s2
 have ob:=old hb2
 have op:=old hz2
 have n1:¬p=b:=hpb.out
 have n2:¬b=p:=fun e=>hpb.out e.symm
 clear c2 s2 oz hw1 HD hb
 go_wp2_with fail
 go_region
 all_goals
  go_wp2
  refine bodyPost_ret (v:=.tuple #[.agg (insc ii),.bool gg]) (results_ins2 (by rfl) _ _ p ii (0,0) (by rfl) ?_ _ (by rfl)) (by rfl) ⟨rfl,?_,?_⟩
  ·rw [heap_putRow _ _ _ _ _ (by simp [hz2,rowHas,Fit,insc_size]),if_pos rfl]
   show rowPut (w2.heap[p]?) 0 (insc ii)=_
   rw [hz2]
   exact rowPut_full _ _ _ _ (by rw [insc_size,insc_size])
  ·exact HC2.out.drew.putRow p 0 _ (.inr (by omega))
  ·unfold Sts
   rw [heap_putRow _ _ _ _ _ (by simp [hz2,rowHas,Fit,insc_size]),if_neg n2]
   exact HS2.out
end
end Go.Proofs.YtcjoinhngdfdmaaGreatDoor
