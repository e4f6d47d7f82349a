/- Texts of the walk, one behind the other: Word Wordb Mfk Mga Mgb Mgc Dpv Dpw Mgd Mge Ago1 Arrq Pra. No condition. -/
import Derived.Test.YtcgjofbkcgedfaaGreatDoorMPaa
import Derived.Test.YtcgjofbkcgedfaaGreatDoorMPab
import Derived.Test.YtcgjofbkcgedfaaGreatDoorMPac
import Derived.Test.YtcgjofbkcgedfaaGreatDoorMPag
import Derived.Test.YtcgjofbkcgedfaaGreatDoorMPah
import Derived.Test.YtcgjofbkcgedfaaGreatDoorMPai
import Derived.BigQuiet
import Derived.Deep.Cut
import Derived.Deep.CutBlock
import Derived.Deep.CutRange
import Derived.Deep.DeepCutAuto
import Derived.Deep.QuietTactic
import Derived.Deep.RegionHeld3
import Derived.Deep.RegionWith
import Derived.Lib.Hide
import Derived.Test.YtcgjofbkcgedfaaGreatDoorChecked
import Derived.WalkKit
namespace Go.Proofs.YtcgjofbkcgedfaaGreatDoor
open Go.RowKit
set_option linter.unusedVariables false
section
set_option maxRecDepth 100000
theorem Zs (n a b:Int) (w:World) (h0:a≤n) (h1:n≤b):Calls Tryz.prog 81 #[.int .i64 n,.int .i64 a,.int .i64 b] w fun e w'=>e=.returned (.bool true)∧w=w':=by
 go_enter Tryz.func81,Tryz.ntmps81
 go_wp2
 go_ret
 exact ⟨rfl,rfl⟩
theorem Qah (n a b:Int) (w:World) (h0:¬(a≤n∧n≤b)):Calls Tryz.prog 81 #[.int .i64 n,.int .i64 a,.int .i64 b] w fun e w'=>e=.returned (.bool false)∧w=w':=by
 by_cases h:a≤n
 ·have h7:decide (n≤b)=false:=by simp;omega
  clear h0
  go_enter Tryz.func81,Tryz.ntmps81
  go_wp2
  go_ret
  exact ⟨rfl,rfl⟩
 ·have h7:decide (a≤n)=false:=by simp;omega
  clear h0
  go_enter Tryz.func81,Tryz.ntmps81
  go_wp2
  go_ret
  exact ⟨rfl,rfl⟩
theorem at_ok (n a:Int) (w:World) (h0:1≤n) (h1:n≤64) (g0:0≤a) (g1:a % 8=0) (g2:a / 64<n):Calls Tryz.prog 148 #[.int .i64 n,.int .u64 a] w fun e w'=>e=.returned (.tuple #[.int .i64 (a / 64),.int .i64 (a % 64 / 8),.int .i64 0])∧w=w':=by
 have g3:a<4096:=by omega
 have t1:(a % 8 !=0)=false:=by simp [g1]
 have t2:decide (n≤a / 64)=false:=by simp;omega
 clear g1
 go_enter Tryz.func148,Tryz.ntmps148
 go_wp2_with (go_at_call 81;refine (Zs _ _ _ _ h0 h1).mono ?_;rintro e w' ⟨rfl,rfl⟩)
 go_ret3
 exact ⟨rfl,rfl⟩
theorem at_odd (n a:Int) (w:World) (h0:1≤n) (h1:n≤64) (g0:0≤a) (g1:a % 8≠0):Calls Tryz.prog 148 #[.int .i64 n,.int .u64 a] w fun e w'=>e=.returned (.tuple #[.int .i64 0,.int .i64 0,.int .i64 12])∧w=w':=by
 have t1:(a % 8 !=0)=true:=by simp [g1]
 clear g1
 go_enter Tryz.func148,Tryz.ntmps148
 go_wp2_with (go_at_call 81;refine (Zs _ _ _ _ h0 h1).mono ?_;rintro e w' ⟨rfl,rfl⟩)
 go_ret3
 exact ⟨rfl,rfl⟩
end
section
set_option maxRecDepth 100000
theorem Qha (n:Int) (w:World) (h:n=1∨n=2∨n=4∨n=8):Calls Tryz.prog 82 #[.int .i64 n] w fun e w'=>e=.returned (.bool true)∧w=w':=by
 obtain rfl|rfl|rfl|rfl:=h
 all_goals
  go_enter Tryz.func82,Tryz.ntmps82
  go_wp2
  go_ret
  exact ⟨rfl,rfl⟩
theorem sets_no (n:Int) (w:World) (h:¬(n=1∨n=2∨n=4∨n=8)):Calls Tryz.prog 82 #[.int .i64 n] w fun e w'=>e=.returned (.bool false)∧w=w':=by
 have e1:(n==1)=false:=by simp;omega
 have e2:(n==2)=false:=by simp;omega
 have e3:(n==4)=false:=by simp;omega
 have e4:(n==8)=false:=by simp;omega
 clear h
 go_enter Tryz.func82,Tryz.ntmps82
 go_wp2
 go_ret
 exact ⟨rfl,rfl⟩
theorem good_0 (c0 c1 c2 c3 c4 c5 c6:Int) (w:World) (h:¬(1≤c0∧c0≤8)):Calls Tryz.prog 49 #[.agg #[.int .i64 c0,.int .i64 c1,.int .i64 c2,.int .i64 c3,.int .i64 c4,.int .i64 c5,.int .i64 c6]] w fun e w'=>e=.returned (.bool false)∧w'=w.alloc (.cells #[.int .i64 c0,.int .i64 c1,.int .i64 c2,.int .i64 c3,.int .i64 c4,.int .i64 c5,.int .i64 c6] 23):=by
 have H:=Vh h
 clear h
 go_enter Tryz.func49,Tryz.ntmps49
 go_wp2_with (first
  |(go_at_call_of 81 (Value.int .i64 c0);refine (Qah _ _ _ _ H.out).mono ?_;rintro e w' ⟨rfl,rfl⟩))
 go_ret
 exact ⟨rfl,rfl⟩
theorem good_1 (c0 c1 c2 c3 c4 c5 c6:Int) (w:World) (p0:1≤c0) (q0:c0≤8) (h:¬(2≤c1∧c1≤64)):Calls Tryz.prog 49 #[.agg #[.int .i64 c0,.int .i64 c1,.int .i64 c2,.int .i64 c3,.int .i64 c4,.int .i64 c5,.int .i64 c6]] w fun e w'=>e=.returned (.bool false)∧w'=w.alloc (.cells #[.int .i64 c0,.int .i64 c1,.int .i64 c2,.int .i64 c3,.int .i64 c4,.int .i64 c5,.int .i64 c6] 23):=by
 have H:=Vh h
 clear h
 go_enter Tryz.func49,Tryz.ntmps49
 go_wp2_with (first
  |(go_at_call_of 81 (Value.int .i64 c0);refine (Zs _ _ _ _ p0 q0).mono ?_;rintro e w' ⟨rfl,rfl⟩)
  |(go_at_call_of 81 (Value.int .i64 c1);refine (Qah _ _ _ _ H.out).mono ?_;rintro e w' ⟨rfl,rfl⟩))
 go_ret
 exact ⟨rfl,rfl⟩
theorem good_2 (c0 c1 c2 c3 c4 c5 c6:Int) (w:World) (p0:1≤c0) (q0:c0≤8) (p1:2≤c1) (q1:c1≤64) (h:¬(1≤c2∧c2≤c1-1)):Calls Tryz.prog 49 #[.agg #[.int .i64 c0,.int .i64 c1,.int .i64 c2,.int .i64 c3,.int .i64 c4,.int .i64 c5,.int .i64 c6]] w fun e w'=>e=.returned (.bool false)∧w'=w.alloc (.cells #[.int .i64 c0,.int .i64 c1,.int .i64 c2,.int .i64 c3,.int .i64 c4,.int .i64 c5,.int .i64 c6] 23):=by
 have H:=Vh h
 clear h
 go_enter Tryz.func49,Tryz.ntmps49
 go_wp2_with (first
  |(go_at_call_of 81 (Value.int .i64 c0);refine (Zs _ _ _ _ p0 q0).mono ?_;rintro e w' ⟨rfl,rfl⟩)
  |(go_at_call_of 81 (Value.int .i64 c1);refine (Zs _ _ _ _ p1 q1).mono ?_;rintro e w' ⟨rfl,rfl⟩)
  |(go_at_call_of 81 (Value.int .i64 c2);refine (Qah _ _ _ _ H.out).mono ?_;rintro e w' ⟨rfl,rfl⟩))
 go_ret
 exact ⟨rfl,rfl⟩
theorem good_3 (c0 c1 c2 c3 c4 c5 c6:Int) (w:World) (p0:1≤c0) (q0:c0≤8) (p1:2≤c1) (q1:c1≤64) (p2:1≤c2) (q2:c2≤c1-1) (h:¬(c3=1∨c3=2∨c3=4∨c3=8)):Calls Tryz.prog 49 #[.agg #[.int .i64 c0,.int .i64 c1,.int .i64 c2,.int .i64 c3,.int .i64 c4,.int .i64 c5,.int .i64 c6]] w fun e w'=>e=.returned (.bool false)∧w'=w.alloc (.cells #[.int .i64 c0,.int .i64 c1,.int .i64 c2,.int .i64 c3,.int .i64 c4,.int .i64 c5,.int .i64 c6] 23):=by
 have H:=Vh h
 clear h
 go_enter Tryz.func49,Tryz.ntmps49
 go_wp2_with (first
  |(go_at_call_of 81 (Value.int .i64 c0);refine (Zs _ _ _ _ p0 q0).mono ?_;rintro e w' ⟨rfl,rfl⟩)
  |(go_at_call_of 81 (Value.int .i64 c1);refine (Zs _ _ _ _ p1 q1).mono ?_;rintro e w' ⟨rfl,rfl⟩)
  |(go_at_call_of 81 (Value.int .i64 c2);refine (Zs _ _ _ _ p2 q2).mono ?_;rintro e w' ⟨rfl,rfl⟩)
  |(go_at_call 82;refine (sets_no _ _ H.out).mono ?_;rintro e w' ⟨rfl,rfl⟩))
 go_ret
 exact ⟨rfl,rfl⟩
theorem good_4 (c0 c1 c2 c3 c4 c5 c6:Int) (w:World) (p0:1≤c0) (q0:c0≤8) (p1:2≤c1) (q1:c1≤64) (p2:1≤c2) (q2:c2≤c1-1) (s:c3=1∨c3=2∨c3=4∨c3=8) (h:¬(1≤c4∧c4≤8)):Calls Tryz.prog 49 #[.agg #[.int .i64 c0,.int .i64 c1,.int .i64 c2,.int .i64 c3,.int .i64 c4,.int .i64 c5,.int .i64 c6]] w fun e w'=>e=.returned (.bool false)∧w'=w.alloc (.cells #[.int .i64 c0,.int .i64 c1,.int .i64 c2,.int .i64 c3,.int .i64 c4,.int .i64 c5,.int .i64 c6] 23):=by
 have H:=Vh h
 clear h
 have S:=Vh s
 clear s
 go_enter Tryz.func49,Tryz.ntmps49
 go_wp2_with (first
  |(go_at_call_of 81 (Value.int .i64 c0);refine (Zs _ _ _ _ p0 q0).mono ?_;rintro e w' ⟨rfl,rfl⟩)
  |(go_at_call_of 81 (Value.int .i64 c1);refine (Zs _ _ _ _ p1 q1).mono ?_;rintro e w' ⟨rfl,rfl⟩)
  |(go_at_call_of 81 (Value.int .i64 c2);refine (Zs _ _ _ _ p2 q2).mono ?_;rintro e w' ⟨rfl,rfl⟩)
  |(go_at_call 82;refine (Qha _ _ S.out).mono ?_;rintro e w' ⟨rfl,rfl⟩)
  |(go_at_call_of 81 (Value.int .i64 c4);refine (Qah _ _ _ _ H.out).mono ?_;rintro e w' ⟨rfl,rfl⟩))
 go_ret
 exact ⟨rfl,rfl⟩
theorem good_5 (c0 c1 c2 c3 c4 c5 c6:Int) (w:World) (p0:1≤c0) (q0:c0≤8) (p1:2≤c1) (q1:c1≤64) (p2:1≤c2) (q2:c2≤c1-1) (s:c3=1∨c3=2∨c3=4∨c3=8) (p4:1≤c4) (q4:c4≤8) (h:¬(1≤c5∧c5≤16)):Calls Tryz.prog 49 #[.agg #[.int .i64 c0,.int .i64 c1,.int .i64 c2,.int .i64 c3,.int .i64 c4,.int .i64 c5,.int .i64 c6]] w fun e w'=>e=.returned (.bool false)∧w'=w.alloc (.cells #[.int .i64 c0,.int .i64 c1,.int .i64 c2,.int .i64 c3,.int .i64 c4,.int .i64 c5,.int .i64 c6] 23):=by
 have H:=Vh h
 clear h
 have S:=Vh s
 clear s
 go_enter Tryz.func49,Tryz.ntmps49
 go_wp2_with (first
  |(go_at_call_of 81 (Value.int .i64 c0);refine (Zs _ _ _ _ p0 q0).mono ?_;rintro e w' ⟨rfl,rfl⟩)
  |(go_at_call_of 81 (Value.int .i64 c1);refine (Zs _ _ _ _ p1 q1).mono ?_;rintro e w' ⟨rfl,rfl⟩)
  |(go_at_call_of 81 (Value.int .i64 c2);refine (Zs _ _ _ _ p2 q2).mono ?_;rintro e w' ⟨rfl,rfl⟩)
  |(go_at_call 82;refine (Qha _ _ S.out).mono ?_;rintro e w' ⟨rfl,rfl⟩)
  |(go_at_call_of 81 (Value.int .i64 c4);refine (Zs _ _ _ _ p4 q4).mono ?_;rintro e w' ⟨rfl,rfl⟩)
  |(go_at_call_of 81 (Value.int .i64 c5);refine (Qah _ _ _ _ H.out).mono ?_;rintro e w' ⟨rfl,rfl⟩))
 go_ret
 exact ⟨rfl,rfl⟩
theorem good_6 (c0 c1 c2 c3 c4 c5 c6:Int) (w:World) (p0:1≤c0) (q0:c0≤8) (p1:2≤c1) (q1:c1≤64) (p2:1≤c2) (q2:c2≤c1-1) (s:c3=1∨c3=2∨c3=4∨c3=8) (p4:1≤c4) (q4:c4≤8) (p5:1≤c5) (q5:c5≤16) (h:¬(1≤c6∧c6≤16)):Calls Tryz.prog 49 #[.agg #[.int .i64 c0,.int .i64 c1,.int .i64 c2,.int .i64 c3,.int .i64 c4,.int .i64 c5,.int .i64 c6]] w fun e w'=>e=.returned (.bool false)∧w'=w.alloc (.cells #[.int .i64 c0,.int .i64 c1,.int .i64 c2,.int .i64 c3,.int .i64 c4,.int .i64 c5,.int .i64 c6] 23):=by
 have H:=Vh h
 clear h
 have S:=Vh s
 clear s
 go_enter Tryz.func49,Tryz.ntmps49
 go_wp2_with (first
  |(go_at_call_of 81 (Value.int .i64 c0);refine (Zs _ _ _ _ p0 q0).mono ?_;rintro e w' ⟨rfl,rfl⟩)
  |(go_at_call_of 81 (Value.int .i64 c1);refine (Zs _ _ _ _ p1 q1).mono ?_;rintro e w' ⟨rfl,rfl⟩)
  |(go_at_call_of 81 (Value.int .i64 c2);refine (Zs _ _ _ _ p2 q2).mono ?_;rintro e w' ⟨rfl,rfl⟩)
  |(go_at_call 82;refine (Qha _ _ S.out).mono ?_;rintro e w' ⟨rfl,rfl⟩)
  |(go_at_call_of 81 (Value.int .i64 c4);refine (Zs _ _ _ _ p4 q4).mono ?_;rintro e w' ⟨rfl,rfl⟩)
  |(go_at_call_of 81 (Value.int .i64 c5);refine (Zs _ _ _ _ p5 q5).mono ?_;rintro e w' ⟨rfl,rfl⟩)
  |(go_at_call_of 81 (Value.int .i64 c6);refine (Qah _ _ _ _ H.out).mono ?_;rintro e w' ⟨rfl,rfl⟩))
 go_ret
 exact ⟨rfl,rfl⟩
theorem good_7 (c0 c1 c2 c3 c4 c5 c6:Int) (w:World) (p0:1≤c0) (q0:c0≤8) (p1:2≤c1) (q1:c1≤64) (p2:1≤c2) (q2:c2≤c1-1) (s:c3=1∨c3=2∨c3=4∨c3=8) (p4:1≤c4) (q4:c4≤8) (p5:1≤c5) (q5:c5≤16) (p6:1≤c6) (q6:c6≤16):Calls Tryz.prog 49 #[.agg #[.int .i64 c0,.int .i64 c1,.int .i64 c2,.int .i64 c3,.int .i64 c4,.int .i64 c5,.int .i64 c6]] w fun e w'=>e=.returned (.bool true)∧w'=w.alloc (.cells #[.int .i64 c0,.int .i64 c1,.int .i64 c2,.int .i64 c3,.int .i64 c4,.int .i64 c5,.int .i64 c6] 23):=by
 have S:=Vh s
 clear s
 go_enter Tryz.func49,Tryz.ntmps49
 go_wp2_with (first
  |(go_at_call_of 81 (Value.int .i64 c0);refine (Zs _ _ _ _ p0 q0).mono ?_;rintro e w' ⟨rfl,rfl⟩)
  |(go_at_call_of 81 (Value.int .i64 c1);refine (Zs _ _ _ _ p1 q1).mono ?_;rintro e w' ⟨rfl,rfl⟩)
  |(go_at_call_of 81 (Value.int .i64 c2);refine (Zs _ _ _ _ p2 q2).mono ?_;rintro e w' ⟨rfl,rfl⟩)
  |(go_at_call 82;refine (Qha _ _ S.out).mono ?_;rintro e w' ⟨rfl,rfl⟩)
  |(go_at_call_of 81 (Value.int .i64 c4);refine (Zs _ _ _ _ p4 q4).mono ?_;rintro e w' ⟨rfl,rfl⟩)
  |(go_at_call_of 81 (Value.int .i64 c5);refine (Zs _ _ _ _ p5 q5).mono ?_;rintro e w' ⟨rfl,rfl⟩)
  |(go_at_call_of 81 (Value.int .i64 c6);refine (Zs _ _ _ _ p6 q6).mono ?_;rintro e w' ⟨rfl,rfl⟩))
 go_ret
 exact ⟨rfl,rfl⟩
def Qcr (c0 c1 c2 c3 c4 c5 c6:Int):Bool:=decide (1≤c0∧c0≤8∧2≤c1∧c1≤64∧1≤c2∧c2≤c1-1∧(c3=1∨c3=2∨c3=4∨c3=8)∧1≤c4∧c4≤8∧1≤c5∧c5≤16∧1≤c6∧c6≤16)
theorem good_any (c0 c1 c2 c3 c4 c5 c6:Int) (w:World):Calls Tryz.prog 49 #[.agg #[.int .i64 c0,.int .i64 c1,.int .i64 c2,.int .i64 c3,.int .i64 c4,.int .i64 c5,.int .i64 c6]] w fun e w'=>e=.returned (.bool (Qcr c0 c1 c2 c3 c4 c5 c6))∧w'=w.alloc (.cells #[.int .i64 c0,.int .i64 c1,.int .i64 c2,.int .i64 c3,.int .i64 c4,.int .i64 c5,.int .i64 c6] 23):=by
 by_cases h0:1≤c0∧c0≤8
 rotate_left
 ·have e:Qcr c0 c1 c2 c3 c4 c5 c6=false:=by unfold Qcr;simp only [decide_eq_false_iff_not];omega
  rw [e];exact good_0 c0 c1 c2 c3 c4 c5 c6 w h0
 by_cases h1:2≤c1∧c1≤64
 rotate_left
 ·have e:Qcr c0 c1 c2 c3 c4 c5 c6=false:=by unfold Qcr;simp only [decide_eq_false_iff_not];omega
  rw [e];exact good_1 c0 c1 c2 c3 c4 c5 c6 w h0.1 h0.2 h1
 by_cases h2:1≤c2∧c2≤c1- 1
 rotate_left
 ·have e:Qcr c0 c1 c2 c3 c4 c5 c6=false:=by unfold Qcr;simp only [decide_eq_false_iff_not];omega
  rw [e];exact good_2 c0 c1 c2 c3 c4 c5 c6 w h0.1 h0.2 h1.1 h1.2 h2
 by_cases h3:c3=1∨c3=2∨c3=4∨c3=8
 rotate_left
 ·have e:Qcr c0 c1 c2 c3 c4 c5 c6=false:=by unfold Qcr;simp only [decide_eq_false_iff_not];omega
  rw [e];exact good_3 c0 c1 c2 c3 c4 c5 c6 w h0.1 h0.2 h1.1 h1.2 h2.1 h2.2 h3
 by_cases h4:1≤c4∧c4≤8
 rotate_left
 ·have e:Qcr c0 c1 c2 c3 c4 c5 c6=false:=by unfold Qcr;simp only [decide_eq_false_iff_not];omega
  rw [e];exact good_4 c0 c1 c2 c3 c4 c5 c6 w h0.1 h0.2 h1.1 h1.2 h2.1 h2.2 h3 h4
 by_cases h5:1≤c5∧c5≤16
 rotate_left
 ·have e:Qcr c0 c1 c2 c3 c4 c5 c6=false:=by unfold Qcr;simp only [decide_eq_false_iff_not];omega
  rw [e];exact good_5 c0 c1 c2 c3 c4 c5 c6 w h0.1 h0.2 h1.1 h1.2 h2.1 h2.2 h3 h4.1 h4.2 h5
 by_cases h6:1≤c6∧c6≤16
 rotate_left
 ·have e:Qcr c0 c1 c2 c3 c4 c5 c6=false:=by unfold Qcr;simp only [decide_eq_false_iff_not];omega
  rw [e];exact good_6 c0 c1 c2 c3 c4 c5 c6 w h0.1 h0.2 h1.1 h1.2 h2.1 h2.2 h3 h4.1 h4.2 h5.1 h5.2 h6
 have e:Qcr c0 c1 c2 c3 c4 c5 c6=true:=by unfold Qcr;simp only [decide_eq_true_eq];omega
 rw [e];exact good_7 c0 c1 c2 c3 c4 c5 c6 w h0.1 h0.2 h1.1 h1.2 h2.1 h2.2 h3 h4.1 h4.2 h5.1 h5.2 h6.1 h6.2
end
section
set_option maxHeartbeats 1000000
set_option maxRecDepth 100000
attribute [local go_sem ↓] Qv QF Qy QO QE Qs Zg Q6 ZF Zu Qk Qh heap_alloc Ql heap_setCell Qc XG XJ XI Zi ZK Zt Xc ZL Xm Xl Xr Xq
attribute [local go_sem] Qb Qa Qd Qi Qe Qg Qf Qt Zk Zf ZD QB Qw QN QL QM Q5 QK QA Qr QD QW QJ Qq QC Qp Qj Qo Qn Qm Zj Zv lit8 QS Z2 ZE ZG ZN Zn ZH Xb ZI QH ZJ Zy Zz QV QU Za Xs
attribute [local simp ↓] Qk Qh heap_alloc Ql heap_setCell Qc
attribute [local simp] Qb Qa Qd Qi Qe Qg Qf Qt Qr Qj Qo Qn Qm QS QH QV QU Za QD
attribute [local go_sem ↓] Qa0 Qa1 Qaz Qay Qa3 Qa2 Qax Qa6
attribute [local go_sem] Jb Qaw Ja XN XR Zh Jo X5 Qa9 Z1 Zp Zo Zm Zr Zq Zl Ze Zd ZC ZB Jk X1
attribute [local simp] Zh ZB Zp Zo Zm Zr Zq Zl Ze Zd ZC
attribute [local go_sem ↓] Jn X0 Jm XZ X9
attribute [local go_sem] Ji Jh X4 Jj QR QT Yp
attribute [local simp] X9 QR QT QD Z1
attribute [local go_sem ↓] Yx Y4 Y5 J8
attribute [local simp] Yx
def Cg.cells (c:Cg):Array Value:=#[.int .i64 c.co,.int .i64 c.li,.int .i64 c.vo,.int .i64 c.se,.int .i64 c.wa,.int .i64 c.qu,.int .i64 c.st]
def MadeSys (W w:World) (c:Cg) (xs:List Int):Ending→World→Prop:=fun e w'=>∃z L,e=.returned (.tuple #[.pointer (some ⟨z.sy,0,none⟩),.int .i64 0])∧Msd W w' c z L (List.replicate c.li enE) [] xs∧ports L=List.replicate c.co (pt0 c)∧Chg [] w w'∧∀k∈z.all L,w.heap.size≤k
theorem good_ok (c:Cg) (hc:c.Ok):Qcr c.co c.li c.vo c.se c.wa c.qu c.st=true:=by
 obtain ⟨h1,h2,h3,h4,h5,h6,h7,h8,h9,h10,h11⟩:=hc
 unfold Qcf at h7
 unfold Qcr
 apply decide_eq_true
 omega
theorem zgood_at (c:Cg) (hc:c.Ok) (w:World):Calls Tryz.prog 49 #[.agg c.cells] w fun e w'=>e=.returned (.bool true)∧Chg [] w w':=
 (good_any c.co c.li c.vo c.se c.wa c.qu c.st w).mono fun e w' ⟨he,hw⟩=>⟨by rw [he,good_ok c hc],by subst hw;exact (Chg.refl [] w).alloc _⟩
theorem Qbp (c:Cg):c.cells.size=7:=rfl
theorem Qgv (c:Cg):J6 c.cells:=Qp _ rfl
theorem cg_li (c:Cg):c.cells[1]? =some (.int .i64 c.li):=rfl
theorem cg_vo (c:Cg):c.cells[2]? =some (.int .i64 c.vo):=rfl
theorem cg_qu (c:Cg):c.cells[5]? =some (.int .i64 c.qu):=rfl
def sysZ (c:Cg) (q:Option Nat):Array Value:=(c.enc++([.pointer (q.map fun k=>⟨k,0,none⟩),.slice none 0 0,.slice none 0 0]:List Value)++List.replicate 6 (Value.int .u64 0)).toArray
theorem fold_cg0 (c:Cg):Array.foldl (fun cs y=>cs.setIfInBounds (0+y.snd) y.fst) (#[.int .i64 0,.int .i64 0,.int .i64 0,.int .i64 0,.int .i64 0,.int .i64 0,.int .i64 0,.pointer none,.slice none 0 0,.slice none 0 0,.int .u64 0,.int .u64 0,.int .u64 0,.int .u64 0,.int .u64 0,.int .u64 0]:Array Value) c.cells.zipIdx 0 7=sysZ c none:=by
 rw [Qd5 _ _ 0 7 rfl (by simp)]
 simp [Zx,sysZ,Cg.cells,Cg.enc]
theorem fold_cg (c:Cg):Array.foldl (fun cs y=>cs.setIfInBounds y.snd y.fst) (#[.int .i64 0,.int .i64 0,.int .i64 0,.int .i64 0,.int .i64 0,.int .i64 0,.int .i64 0,.pointer none,.slice none 0 0,.slice none 0 0,.int .u64 0,.int .u64 0,.int .u64 0,.int .u64 0,.int .u64 0,.int .u64 0]:Array Value) c.cells.zipIdx 0 7=sysZ c none:=by
 have:=fold_cg0 c
 simp only [Nat.zero_add] at this
 exact this
theorem sysZ_put (c:Cg) (q:Nat):(sysZ c none).setIfInBounds 7 (.pointer (some ⟨q,0,none⟩))=sysZ c (some q):=rfl
theorem sysZ_size (c:Cg) (q:Option Nat):(sysZ c q).size=16:=rfl
theorem sysZ_enc (c:Cg) (q:Nat):∀z:Lay,z.q=q→z.ks=List.replicate 6 0→((sysZ c (some q)).setIfInBounds 8 (.slice (some ⟨z.po,0,none⟩) c.co c.co)).setIfInBounds 9 (.slice (some ⟨z.en,0,none⟩) c.li c.li)=(z.enc c).toArray:=by
 rintro z rfl h
 unfold Lay.enc sysZ
 rw [h]
 rfl
attribute [local go_sem] fold_cg fold_cg0 sysZ_put sysZ_size
theorem Qgm:Wide Tryz.prog 23 7:=⟨⟨_,Tryz.underlying23,by rfl⟩,by kernel_rfl⟩
theorem Qgq (x:Value):Instr.loadAt 23 x=Qda 23 7 x:=rfl
attribute [local go_sem ↓] Qgq cg_li cg_vo cg_qu
theorem Qds (c:Cg) (t:TypeId) (f:Nat×Nat):XM (some (.cells c.cells t f)) 0 7=c.cells:=Qe _ _ _ _ rfl
attribute [local go_sem] Qgm Qbp Qgv Qds
theorem znew_none (W w:World) (c:Cg) (hc:c.Ok) (hW:Chg [] W w) (A:Option Addr) (nc:Nat):Calls Tryz.prog 33 #[.agg c.cells,.slice A 0 nc] w (MadeSys W w c (List.replicate (c.li*8) 0)):=by
 have HC:=Vh hc
 have HW:=Vh hW
 clear hc hW
 go_enter Tryz.func33,Tryz.ntmps33
 try dsimp only [List.append]
 go_wp2_with fail
 have r1:(w.alloc (.cells c.cells 23)).heap[w.heap.size]? =some (.cells c.cells 23 (0,0)):=by simp
 have C1:=Vh ((Chg.refl [] w).alloc (.cells c.cells 23))
 refine (zgood_at c HC.out _).mono ?_
 rintro e w2 ⟨rfl,c2⟩
 replace r1:=c2.keep r1 Vn
 have o1:=old r1
 have C2:=Vh (C1.out.trans c2)
 clear C1 c2
 generalize w.heap.size=b1 at r1 o1 ⊢
 go_wp2_with fail
 refine (new_ok c.li c.vo w2 HC.out.li2 HC.out.li64 HC.out.vo1 HC.out.vol).mono ?_
 rintro e w3 ⟨rfl,c3,hdev,hsz⟩
 replace r1:=c3.keep r1 Vn
 replace o1:=old r1
 have C3:=Vh (C2.out.trans c3)
 have HD:=Vh hdev
 have HL:=Vh C2.out.size
 have HGB:=Vh (show w.heap.size≤w2.heap.size+1∧w.heap.size≤w2.heap.size from ⟨by have:=C2.out.size;omega,C2.out.size⟩)
 generalize w2.heap.size+1=g at HD HGB ⊢
 generalize w2.heap.size=b at HD HL HGB
 clear c3 hsz
 have HG:=Vh (show w.heap.size≤g∧w.heap.size≤b from HGB.out)
 go_wp2_with fail
 refine (wsys_new W c.li c.vo c.qu w3 g b _ (HW.out.trans C3.out) HD.out (Nat.le_trans HW.out.size HG.out.1) (Nat.le_trans HW.out.size HG.out.2) HC.out.qu1 HC.out.qu16).mono ?_
 rintro e w4 ⟨q,rfl,hsys,c4,hq⟩
 replace r1:=c4.keep r1 Vn
 replace o1:=old r1
 have HS4:=Vh hsys
 have HQ:=Vh hq
 have C4:=Vh (C3.out.trans c4)
 clear hsys hq c4
 go_upto_region 9 with fail
 have rS:(w4.alloc (.cells (sysZ c (some q)) 116)).heap[w4.heap.size]? =some (.cells (sysZ c (some q)) 116 (0,0)):=Qbm _ _
 have K5:=Vh ((Chg.refl [] w4).alloc (.cells (sysZ c (some q)) 116))
 have NS:=Vh (Nat.le_refl w4.heap.size)
 have NQ:=Vh (show q<w4.heap.size∧g<w4.heap.size∧b<w4.heap.size from ⟨HS4.out.2.1.oldq.lt,HS4.out.2.2.1.oldg,HS4.out.2.2.1.oldb⟩)
 have SY0:=Vh C4.out.size
 have HSZ:=Vh (show w4.heap.size≤(w4.alloc (.cells (sysZ c (some q)) 116)).heap.size by simp)
 generalize w4.heap.size=sy at rS NS NQ SY0 HSZ ⊢
 generalize w4.alloc (.cells (sysZ c (some q)) 116)=w5 at rS K5 HSZ ⊢
 have hf:=Qh9 W w5 c HC.out sy (sysZ c (some q)) ((HW.out.trans C4.out).trans K5.out) (Nat.le_trans HW.out.size SY0.out) rS rfl rfl rfl rfl _ _ rfl rfl
 have HF:=Vh hf
 have HRS:=Vh rS
 clear hf rS r1 o1
 go_wp2_with fail
 refine HF.out.mono ?_
 rintro e w6 ⟨rfl,hfr⟩
 have hS5:=HS4.out.keep K5.out
 have hap:=HS4.out.2.2.2.1
 have hgb:g≠b:=by obtain ⟨_,_,_,_,_,_,_,h⟩:=HS4.out.2.2.1;exact h
 have hnd:([sy,q,g,b]++opt q q).Nodup:=by
  have h1:=NQ.out
  obtain ⟨a1,a2,a3,a4⟩:=hap
  simp [opt]
  omega
 obtain ⟨po,en,L,hm,hp,hc6,hk6⟩:=Qh4 (z:=⟨sy,q,q,g,b,0,0,List.replicate 6 0⟩) (fun po en=>sysZ_enc c q ⟨sy,q,q,g,b,po,en,List.replicate 6 0⟩ rfl rfl) ((HW.out.trans C4.out).trans K5.out) HRS.out (Nat.le_trans HW.out.size SY0.out) (by simp) hS5 hnd hfr
 have HFIN:=Vh (show MadeSys W w c (List.replicate (c.li*8) 0) (.returned (.tuple #[.pointer (some ⟨sy,0,none⟩),.int .i64 0])) w6 by
  refine ⟨⟨sy,q,q,g,b,po,en,List.replicate 6 0⟩,L,rfl,hm,hp,((C4.out.trans K5.out).mono (by simp)).trans' hc6 (fun x hx=>.inr (by rw [Vs hx];exact SY0.out)),?_⟩
  intro k hk
  have h1:=HQ.out
  have h2:=HG.out
  have h3:=C3.out.size
  have h4:=SY0.out
  have h5:=C4.out.size
  have h6:=K5.out.size
  rcases hk6 k hk with h|h
  ·simp [opt] at h
   omega
  ·have:=HSZ.out
   omega)
 clear hfr hm hp hc6 hk6 hnd hS5
 go_wp2_with fail
 go_ret2
 exact HFIN.out
end
section
set_option maxHeartbeats 1000000
set_option maxRecDepth 100000
attribute [local go_sem ↓] Qv QF Qy QO QE Qs Zg Q6 ZF Zu Qk Qh heap_alloc Ql heap_setCell Qc XG XJ XI Zi ZK Zt Xc ZL Xm Xl Xr Xq
attribute [local go_sem] Qb Qa Qd Qi Qe Qg Qf Qt Zk Zf ZD QB Qw QN QL QM Q5 QK QA Qr QD QW QJ Qq QC Qp Qj Qo Qn Qm Zj Zv lit8 QS Z2 ZE ZG ZN Zn ZH Xb ZI QH ZJ Zy Zz QV QU Za Xs
attribute [local simp ↓] Qk Qh heap_alloc Ql heap_setCell Qc
attribute [local simp] Qb Qa Qd Qi Qe Qg Qf Qt Qr Qj Qo Qn Qm QS QH QV QU Za QD
attribute [local go_sem ↓] Qa0 Qa1 Qaz Qay Qa3 Qa2 Qax Qa6
attribute [local go_sem] Jb Qaw Ja XN XR Zh Jo X5 Qa9 Z1 Zp Zo Zm Zr Zq Zl Ze Zd ZC ZB Jk X1
attribute [local simp] Zh ZB Zp Zo Zm Zr Zq Zl Ze Zd ZC
attribute [local go_sem ↓] Jn X0 Jm XZ X9
attribute [local go_sem] Ji Jh X4 Jj QR QT Yp
attribute [local simp] X9 QR QT QD Z1
def Mem (W w:World) (c:Cg) (sy:Nat) (F:List Nat) (ps:List Pt) (en:List En) (es:List Ent) (xs:List Int):Prop:=∃z L,z.sy=sy∧z.all L=F∧ports L=ps∧Msd W w c z L en es xs
def MemTo (W w:World) (c:Cg) (sy:Nat) (F:List Nat) (ps:List Pt) (en:List En) (es:List Ent) (xs:List Int) (w':World):Prop:=∃F',Mem W w' c sy F' ps en es xs∧Chg F w w'∧∀k∈F',k∈F∨w.heap.size≤k
theorem MemTo.of {W w w':World} {c:Cg} {z z':Lay} {L L':List (Po×Pt)} {en:List En} {es:List Ent} {xs:List Int} (h:MTo W w c z L z' L' en es xs w') (hs:z'.sy=z.sy) {ps:List Pt} (hp:ports L'=ps):MemTo W w c z.sy (z.all L) ps en es xs w':=
 ⟨z'.all L',⟨z',L',hs,rfl,hp,h.1⟩,h.2.1,h.2.2⟩
theorem MemTo.trans {W w w1 w2:World} {c:Cg} {sy:Nat} {F F1:List Nat} {ps ps2:List Pt} {en en2:List En} {es es2:List Ent} {xs xs2:List Int} (h1:Mem W w1 c sy F1 ps en es xs) (h2:Chg F w w1) (h3:∀k∈F1,k∈F∨w.heap.size≤k) (h:MemTo W w1 c sy F1 ps2 en2 es2 xs2 w2):MemTo W w c sy F ps2 en2 es2 xs2 w2:=by
 obtain ⟨F2,hm,hc,hk⟩:=h
 refine ⟨F2,hm,h2.trans' hc h3,fun k hk2=>?_⟩
 rcases hk k hk2 with h4|h4
 ·exact h3 k h4
 ·exact .inr (Nat.le_trans h2.size h4)
section
variable {W w w':World} {c:Cg} {sy:Nat} {F:List Nat} {ps:List Pt} {en:List En} {es:List Ent} {xs:List Int} (hm:Mem W w c sy F ps en es xs)
include hm
theorem Mem.keep (hc:Chg [] w w'):Mem W w' c sy F ps en es xs:=by
 obtain ⟨z,L,h1,h2,h3,h⟩:=hm
 exact ⟨z,L,h1,h2,h3,h.keep hc⟩
theorem Mem.keepL {l:List Nat} (hc:Chg l w w') (hl:∀k∈l,k∉F) (hw:∀k∈l,W.heap.size≤k):Mem W w' c sy F ps en es xs:=by
 obtain ⟨z,L,h1,rfl,h3,h⟩:=hm
 exact ⟨z,L,h1,rfl,h3,h.keepL hc hl hw⟩
theorem Mem.stay (hc:Chg [] w w'):MemTo W w c sy F ps en es xs w':=⟨F,hm.keep hc,hc.mono (by simp),fun k hk=>.inl hk⟩
theorem Mem.chg:Chg [] W w:=by obtain ⟨z,L,_,_,_,h⟩:=hm;exact h.chg
theorem Mem.old:∀k∈F,k<w.heap.size:=by obtain ⟨z,L,_,rfl,_,h⟩:=hm;exact h.old
theorem mload_ok (i:Nat) (li k:Int) (x:Pt) (hy:ps[i]? =some x) (hT:Tab W) (hl:inB li c.li=true) (hu:x.s.2≤1000000000) (hq:x.up.length<1000) (hma:∀m∈(loadF c.se c.wa x.s li k).2.2.2,mg m=true) (h1:(loadF c.se c.wa x.s li k).2.2.2.length≤1):
 Calls Tryz.prog 202 #[.pointer (some ⟨sy,0,none⟩),.int .i64 i,.int .i64 li,.int .i64 k] w fun e w'=>e=.returned (.tuple #[.int .u64 (loadF c.se c.wa x.s li k).2.1,.bool (loadF c.se c.wa x.s li k).2.2.1])∧MemTo W w c sy F (ps.set i {x with s:=(loadF c.se c.wa x.s li k).1,up:=x.up++(loadF c.se c.wa x.s li k).2.2.2}) en es xs w':=by
 obtain ⟨z,L,rfl,rfl,rfl,h⟩:=hm
 obtain ⟨p,hp⟩:=Je hy
 exact (zload_ok i li k p x w h hT hp hl hu hq hma h1).mono fun e w' ⟨he,p',M⟩=>⟨he,MemTo.of M rfl (X8 ..)⟩
theorem mstore_ok (i:Nat) (li k v:Int) (x:Pt) (hy:ps[i]? =some x) (hT:Tab W) (hl:inB li c.li=true) (hu:x.s.2≤1000000000) (hq:x.up.length<1000) (hma:∀m∈(storeF c.se c.wa x.s li k v).2.2,mg m=true) (h1:(storeF c.se c.wa x.s li k v).2.2.length≤1):
 Calls Tryz.prog 152 #[.pointer (some ⟨sy,0,none⟩),.int .i64 i,.int .i64 li,.int .i64 k,.int .u64 v] w fun e w'=>e=.returned (.bool (storeF c.se c.wa x.s li k v).2.1)∧MemTo W w c sy F (ps.set i {x with s:=(storeF c.se c.wa x.s li k v).1,up:=x.up++(storeF c.se c.wa x.s li k v).2.2}) en es xs w':=by
 obtain ⟨z,L,rfl,rfl,rfl,h⟩:=hm
 obtain ⟨p,hp⟩:=Je hy
 exact (zstore_ok i li k v p x w h hT hp hl hu hq hma h1).mono fun e w' ⟨he,p',M⟩=>⟨he,MemTo.of M rfl (X8 ..)⟩
theorem mevict_ok (i:Nat) (li:Int) (x:Pt) (hy:ps[i]? =some x) (hT:Tab W) (hl:inB li c.li=true) (hu:x.s.2≤1000000000) (hq:x.up.length<1000) (hma:∀m∈(evictF c.se c.wa x.s li).2.1,mg m=true) (h1:(evictF c.se c.wa x.s li).2.1.length≤1):
 Calls Tryz.prog 95 #[.pointer (some ⟨sy,0,none⟩),.int .i64 i,.int .i64 li] w fun e w'=>e=.returned (.int .i64 (evictF c.se c.wa x.s li).2.2)∧MemTo W w c sy F (ps.set i {x with s:=(evictF c.se c.wa x.s li).1,up:=x.up++(evictF c.se c.wa x.s li).2.1}) en es xs w':=by
 obtain ⟨z,L,rfl,rfl,rfl,h⟩:=hm
 obtain ⟨p,hp⟩:=Je hy
 exact (zevict_ok i li p x w h hT hp hl hu hq hma h1).mono fun e w' ⟨he,p',M⟩=>⟨he,MemTo.of M rfl (X8 ..)⟩
theorem mreach_own (i:Nat) (li:Int) (x:Pt) (hy:ps[i]? =some x) (hl:inB li c.li=true) (ho:Qee x.s.1 li=true):
 Calls Tryz.prog 204 #[.pointer (some ⟨sy,0,none⟩),.int .i64 i,.int .i64 li] w fun e w'=>e=.returned (.bool true)∧Chg [] w w':=by
 obtain ⟨z,L,rfl,rfl,rfl,h⟩:=hm
 obtain ⟨p,hp⟩:=Je hy
 exact zreach_own i li p x w h hp hl ho
theorem mreach_ok (i:Nat) (li:Int) (x:Pt) (hy:ps[i]? =some x) (hT:Tab W) (hl:inB li c.li=true) (ho:Qee x.s.1 li=false) (hu:x.s.2≤1000000000) (hq:x.up.length<1000) (hma:∀m∈(reachF c.se c.wa x.s li).2,mg m=true) (h1:(reachF c.se c.wa x.s li).2.length≤1):
 Calls Tryz.prog 204 #[.pointer (some ⟨sy,0,none⟩),.int .i64 i,.int .i64 li] w fun e w'=>e=.returned (.bool false)∧MemTo W w c sy F (ps.set i {x with s:=(reachF c.se c.wa x.s li).1,up:=x.up++(reachF c.se c.wa x.s li).2}) en es xs w':=by
 obtain ⟨z,L,rfl,rfl,rfl,h⟩:=hm
 obtain ⟨p,hp⟩:=Je hy
 exact (zreach_ok i li p x w h hT hp hl ho hu hq hma h1).mono fun e w' ⟨he,p',M⟩=>⟨he,MemTo.of M rfl (X8 ..)⟩
theorem mflush_4 (i:Nat) (li:Int) (x:Pt) (hy:ps[i]? =some x) (hT:Tab W) (hl:inB li c.li=true) (hq:x.up.length<1000) (hma:mg (ms4 4 li false false)=true):
 Calls Tryz.prog 154 #[.pointer (some ⟨sy,0,none⟩),.int .i64 i,.int .i64 li,.int .i64 4] w fun e w'=>e=.returned (.int .i64 0)∧MemTo W w c sy F (ps.set i {x with up:=x.up++[ms4 4 li false false]}) en es xs w':=by
 obtain ⟨z,L,rfl,rfl,rfl,h⟩:=hm
 obtain ⟨p,hp⟩:=Je hy
 exact (zflush_4 i li p x w h hT hp hl hq hma).mono fun e w' ⟨he,p',M⟩=>⟨he,MemTo.of M rfl (X8 ..)⟩
theorem mflush_5 (i:Nat) (li:Int) (x:Pt) (hy:ps[i]? =some x) (hT:Tab W) (hl:inB li c.li=true) (hq:x.up.length<1000) (hma:mg (ms4 5 li false false)=true):
 Calls Tryz.prog 154 #[.pointer (some ⟨sy,0,none⟩),.int .i64 i,.int .i64 li,.int .i64 5] w fun e w'=>e=.returned (.int .i64 0)∧MemTo W w c sy F (ps.set i {x with up:=x.up++[ms4 5 li false false]}) en es xs w':=by
 obtain ⟨z,L,rfl,rfl,rfl,h⟩:=hm
 obtain ⟨p,hp⟩:=Je hy
 exact (zflush_5 i li p x w h hT hp hl hq hma).mono fun e w' ⟨he,p',M⟩=>⟨he,MemTo.of M rfl (X8 ..)⟩
theorem mup_none (i:Nat) (x:Pt) (hy:ps[i]? =some x) (hx:x.up=[]):
 Calls Tryz.prog 89 #[.pointer (some ⟨sy,0,none⟩),.int .i64 i] w fun e w'=>e=.returned (.int .i64 14)∧Chg [] w w':=by
 obtain ⟨z,L,rfl,rfl,rfl,h⟩:=hm
 obtain ⟨p,hp⟩:=Je hy
 exact zup_none i p x w h hp hx
theorem mup_go (i k:Nat) (x:Pt) (hy:ps[i]? =some x) (m:Ms) (rest:List Ms) (e e':En) (l:List Int) (hl:l.length=8) (ds:List Sd) (v:Int) (hT:Tab W) (hx:x.up=m::rest) (hlu:x.up.length≤1000) (hk:m.li=(k:Int)) (he:en[k]? =some e) (hX:ln (over xs es) k=l)
 (hr:askE (hereE e l hl) i m=((e',ds),v)) (hto:∀d∈ds,0≤d.to∧d.to<c.co∧mg d.m=true) (M:Nat) (hM:∀x∈ps,x.dn.length≤M) (hMn:M+ds.length≤1000):
 Calls Tryz.prog 89 #[.pointer (some ⟨sy,0,none⟩),.int .i64 i] w fun r w'=>(v≠0∧r=.returned (.int .i64 v)∧MemTo W w c sy F ps en es xs w')∨(v=0∧r=.returned (.int .i64 0)∧MemTo W w c sy F (Y9 (ps.set i {x with up:=rest}) ds) (en.set k e') es xs w'):=by
 obtain ⟨z,L,rfl,rfl,rfl,h⟩:=hm
 obtain ⟨p,hp⟩:=Je hy
 refine (zup_go i k p x m rest e e' l hl ds v w h hT hp hx hlu hk he hX hr hto M hM hMn).mono fun r w' hr2=>?_
 rcases hr2 with ⟨h1,h2,be',M1⟩|⟨h1,h2,be',ks',L',M1,hp2⟩
 ·exact .inl ⟨h1,h2,MemTo.of M1 rfl rfl⟩
 ·exact .inr ⟨h1,h2,MemTo.of M1 rfl hp2⟩
theorem manswer_none (i:Nat) (x:Pt) (hy:ps[i]? =some x) (hx:x.an=[]):
 Calls Tryz.prog 90 #[.pointer (some ⟨sy,0,none⟩),.int .i64 i] w fun e w'=>e=.returned (.int .i64 14)∧MemTo W w c sy F (ps.set i {x with an:=[]}) en es xs w':=by
 obtain ⟨z,L,rfl,rfl,rfl,h⟩:=hm
 obtain ⟨p,hp⟩:=Je hy
 exact (zanswer_none i p x w h hp hx).mono fun e w' ⟨he,p',M⟩=>⟨he,MemTo.of M rfl (X8 ..)⟩
theorem manswer_go (i k:Nat) (x:Pt) (hy:ps[i]? =some x) (m:Ms) (rest:List Ms) (e e':En) (ds:List Sd) (v:Int) (hT:Tab W) (hx:x.an=m::rest) (hlu:x.an.length≤1000) (hk:m.li=(k:Int)) (he:en[k]? =some e)
 (hr:ansE e i m=((e',ds),v)) (hto:∀d∈ds,0≤d.to∧d.to<c.co∧mg d.m=true) (M:Nat) (hM:∀x∈ps,x.dn.length≤M) (hMn:M+ds.length≤1000):
 Calls Tryz.prog 90 #[.pointer (some ⟨sy,0,none⟩),.int .i64 i] w fun r w'=>(v≠0∧r=.returned (.int .i64 v)∧MemTo W w c sy F (ps.set i {x with an:=rest}) en es xs w')∨(v=0∧r=.returned (.int .i64 0)∧MemTo W w c sy F (Y9 (ps.set i {x with an:=rest}) ds) (en.set k e') es xs w'):=by
 obtain ⟨z,L,rfl,rfl,rfl,h⟩:=hm
 obtain ⟨p,hp⟩:=Je hy
 refine (zanswer_go i k p x m rest e e' ds v w h hT hp hx hlu hk he hr hto M hM hMn).mono fun r w' hr2=>?_
 rcases hr2 with ⟨h1,h2,p',M1⟩|⟨h1,h2,ks',L',M1,hp2⟩
 ·exact .inl ⟨h1,h2,MemTo.of M1 rfl (X8 ..)⟩
 ·exact .inr ⟨h1,h2,MemTo.of M1 rfl hp2⟩
theorem mhear_none (i:Nat) (x:Pt) (hy:ps[i]? =some x) (hx:x.dn=[]):
 Calls Tryz.prog 91 #[.pointer (some ⟨sy,0,none⟩),.int .i64 i] w fun e w'=>e=.returned (.tuple #[.agg (msc msZ),.int .i64 14])∧MemTo W w c sy F (ps.set i {x with dn:=[]}) en es xs w':=by
 obtain ⟨z,L,rfl,rfl,rfl,h⟩:=hm
 obtain ⟨p,hp⟩:=Je hy
 exact (zhear_none i p x w h hp hx).mono fun e w' ⟨he,p',M⟩=>⟨he,MemTo.of M rfl (X8 ..)⟩
theorem mhear_go (i:Nat) (x:Pt) (hy:ps[i]? =some x) (m:Ms) (rest:List Ms) (s':Sta) (av:List Ms) (v:Int) (hT:Tabs W) (hx:x.dn=m::rest) (hlu:x.dn.length≤1000) (hu:x.s.2≤1000000000) (hr:hearF c.se c.wa x.s m=(s',(av,v))) (ha1:av.length≤1) (hla:x.an.length<1000) (hma:∀a∈av,mg a=true):
 Calls Tryz.prog 91 #[.pointer (some ⟨sy,0,none⟩),.int .i64 i] w fun e w'=>(v≠0∧e=.returned (.tuple #[.agg (msc msZ),.int .i64 v])∧MemTo W w c sy F (ps.set i {x with s:=s',dn:=rest}) en es xs w')∨(v=0∧e=.returned (.tuple #[.agg (msc m),.int .i64 0])∧MemTo W w c sy F (ps.set i {x with s:=s',an:=x.an++av,dn:=rest}) en es xs w'):=by
 obtain ⟨z,L,rfl,rfl,rfl,h⟩:=hm
 obtain ⟨p,hp⟩:=Je hy
 refine (zhear_go i p x m rest s' av v w h hT hp hx hlu hu hr ha1 hla hma).mono fun r w' hr2=>?_
 rcases hr2 with ⟨h1,h2,p',M1⟩|⟨h1,h2,ks',p',M1⟩
 ·exact .inl ⟨h1,h2,MemTo.of M1 rfl (X8 ..)⟩
 ·exact .inr ⟨h1,h2,MemTo.of M1 rfl (X8 ..)⟩
theorem mdrop_kept (i:Nat) (e:En) (he:en[i]? =some e) (hd:Qdb e=true):
 Calls Tryz.prog 96 #[.pointer (some ⟨sy,0,none⟩),.int .i64 i] w fun r w'=>r=.returned (.int .i64 16)∧Chg [] w w':=by
 obtain ⟨z,L,rfl,rfl,rfl,h⟩:=hm
 exact zdrop_kept i e w h he hd
theorem mdrop_go (i:Nat) (e:En) (hT:Tab W) (he:en[i]? =some e) (hd:Qdb e=false) (v:Int) (hv:Qai c es i e=v) (es':List Ent) (hs:Jl c es i e=es') (M:Nat) (hM:∀x∈ps,x.dn.length≤M) (hMn:M≤1000):
 Calls Tryz.prog 96 #[.pointer (some ⟨sy,0,none⟩),.int .i64 i] w fun r w'=>(v≠0∧r=.returned (.int .i64 v)∧MemTo W w c sy F ps en es' xs w')∨(v=0∧r=.returned (.int .i64 0)∧MemTo W w c sy F ps (en.set i enE) es' xs w'):=by
 obtain ⟨z,L,rfl,rfl,rfl,h⟩:=hm
 refine (zdrop_go i e w h hT he hd v hv es' hs M hM hMn).mono fun r w' hr2=>?_
 rcases hr2 with ⟨h1,h2,be',M1⟩|⟨h1,h2,be',ks',L',M1,hp2⟩
 ·exact .inl ⟨h1,h2,MemTo.of M1 rfl rfl⟩
 ·exact .inr ⟨h1,h2,MemTo.of M1 rfl hp2⟩
theorem mdrain_ok (k:Int) (hk:inB k c.li=true):
 Calls Tryz.prog 97 #[.pointer (some ⟨sy,0,none⟩),.int .i64 k] w fun e w'=>e=.returned (.int .i64 (Qbe es k))∧MemTo W w c sy F ps en (JW es k) (JO xs es k) w':=by
 obtain ⟨z,L,rfl,rfl,rfl,h⟩:=hm
 exact (zdrain_ok k w h hk).mono fun e w' ⟨he,be',ks',M⟩=>⟨he,MemTo.of M rfl rfl⟩
theorem mfail_ok (hc:c.Ok):
 Calls Tryz.prog 98 #[.pointer (some ⟨sy,0,none⟩)] w fun e w'=>e=.returned (.tuple #[])∧MemTo W w c sy F (List.replicate c.co (pt0 c)) (List.replicate c.li enE) [] (J4 (over xs es) c.vo) w':=by
 obtain ⟨z,L,rfl,rfl,rfl,h⟩:=hm
 exact (zfail_ok w h hc).mono fun e w' ⟨he,z',L',M,hs,hp2⟩=>⟨he,MemTo.of M hs hp2⟩
theorem mslots_ok (i:Nat) (x:Pt) (hy:ps[i]? =some x):Calls Tryz.prog 76 #[.pointer (some ⟨sy,0,none⟩),.int .i64 i] w (Qfz w (live x.s.1)):=by
 obtain ⟨z,L,rfl,rfl,rfl,h⟩:=hm
 obtain ⟨p,hp⟩:=Je hy
 exact zslots_ok i p x w h hp
theorem mqueues_ok (i:Nat) (x:Pt) (hy:ps[i]? =some x) (h1:x.up.length≤1000) (h2:x.an.length≤1000) (h3:x.dn.length≤1000):Calls Tryz.prog 75 #[.pointer (some ⟨sy,0,none⟩),.int .i64 i] w (Qus w x):=by
 obtain ⟨z,L,rfl,rfl,rfl,h⟩:=hm
 obtain ⟨p,hp⟩:=Je hy
 exact zqueues_ok i p x w h hp h1 h2 h3
theorem mmemory_ok:Calls Tryz.prog 22 #[.pointer (some ⟨sy,0,none⟩)] w (Qf0 w c.li (over xs es)):=by
 obtain ⟨z,L,rfl,rfl,rfl,h⟩:=hm
 exact zmemory_ok w h
theorem mload_no (k li:Int) (wd:Int) (hk:inB k c.co=false):Calls Tryz.prog 202 #[.pointer (some ⟨sy,0,none⟩),.int .i64 k,.int .i64 li,.int .i64 wd] w fun e w'=>e=.returned (.tuple #[.int .u64 0,.bool false])∧w=w':=by
 obtain ⟨z,L,rfl,rfl,rfl,h⟩:=hm
 exact zload_no k li wd w h hk
theorem mload_off (i:Nat) (li:Int) (wd:Int) (hi:i<c.co) (hl:inB li c.li=false):Calls Tryz.prog 202 #[.pointer (some ⟨sy,0,none⟩),.int .i64 i,.int .i64 li,.int .i64 wd] w fun e w'=>e=.returned (.tuple #[.int .u64 0,.bool false])∧w=w':=by
 obtain ⟨z,L,rfl,rfl,rfl,h⟩:=hm
 exact zload_off i li wd w h hi hl
theorem mstore_no (k li:Int) (wd v:Int) (hk:inB k c.co=false):Calls Tryz.prog 152 #[.pointer (some ⟨sy,0,none⟩),.int .i64 k,.int .i64 li,.int .i64 wd,.int .u64 v] w fun e w'=>e=.returned (.bool false)∧w=w':=by
 obtain ⟨z,L,rfl,rfl,rfl,h⟩:=hm
 exact zstore_no k li wd v w h hk
theorem mstore_off (i:Nat) (li:Int) (wd v:Int) (hi:i<c.co) (hl:inB li c.li=false):Calls Tryz.prog 152 #[.pointer (some ⟨sy,0,none⟩),.int .i64 i,.int .i64 li,.int .i64 wd,.int .u64 v] w fun e w'=>e=.returned (.bool false)∧w=w':=by
 obtain ⟨z,L,rfl,rfl,rfl,h⟩:=hm
 exact zstore_off i li wd v w h hi hl
theorem mreach_no (k li:Int) (hk:inB k c.co=false):Calls Tryz.prog 204 #[.pointer (some ⟨sy,0,none⟩),.int .i64 k,.int .i64 li] w fun e w'=>e=.returned (.bool false)∧w=w':=by
 obtain ⟨z,L,rfl,rfl,rfl,h⟩:=hm
 exact zreach_no k li w h hk
theorem mreach_off (i:Nat) (li:Int) (hi:i<c.co) (hl:inB li c.li=false):Calls Tryz.prog 204 #[.pointer (some ⟨sy,0,none⟩),.int .i64 i,.int .i64 li] w fun e w'=>e=.returned (.bool false)∧w=w':=by
 obtain ⟨z,L,rfl,rfl,rfl,h⟩:=hm
 exact zreach_off i li w h hi hl
theorem mevict_no (k li:Int) (hk:inB k c.co=false):Calls Tryz.prog 95 #[.pointer (some ⟨sy,0,none⟩),.int .i64 k,.int .i64 li] w fun e w'=>e=.returned (.int .i64 1)∧w=w':=by
 obtain ⟨z,L,rfl,rfl,rfl,h⟩:=hm
 exact zevict_no k li w h hk
theorem mevict_off (i:Nat) (li:Int) (hi:i<c.co) (hl:inB li c.li=false):Calls Tryz.prog 95 #[.pointer (some ⟨sy,0,none⟩),.int .i64 i,.int .i64 li] w fun e w'=>e=.returned (.int .i64 1)∧w=w':=by
 obtain ⟨z,L,rfl,rfl,rfl,h⟩:=hm
 exact zevict_off i li w h hi hl
theorem mflush_no (k li:Int) (kd:Int) (hk:inB k c.co=false):Calls Tryz.prog 154 #[.pointer (some ⟨sy,0,none⟩),.int .i64 k,.int .i64 li,.int .i64 kd] w fun e w'=>e=.returned (.int .i64 1)∧w=w':=by
 obtain ⟨z,L,rfl,rfl,rfl,h⟩:=hm
 exact zflush_no k li kd w h hk
theorem mflush_off (i:Nat) (li:Int) (kd:Int) (hi:i<c.co) (hl:inB li c.li=false):Calls Tryz.prog 154 #[.pointer (some ⟨sy,0,none⟩),.int .i64 i,.int .i64 li,.int .i64 kd] w fun e w'=>e=.returned (.int .i64 1)∧w=w':=by
 obtain ⟨z,L,rfl,rfl,rfl,h⟩:=hm
 exact zflush_off i li kd w h hi hl
theorem mflush_kind (i:Nat) (li kd:Int) (hi:i<c.co) (hl:inB li c.li=true) (h4:kd≠4) (h5:kd≠5):Calls Tryz.prog 154 #[.pointer (some ⟨sy,0,none⟩),.int .i64 i,.int .i64 li,.int .i64 kd] w fun e w'=>e=.returned (.int .i64 1)∧w=w':=by
 obtain ⟨z,L,rfl,rfl,rfl,h⟩:=hm
 exact zflush_kind i li kd w h hi hl h4 h5
theorem mup_no (k:Int) (hk:inB k c.co=false):Calls Tryz.prog 89 #[.pointer (some ⟨sy,0,none⟩),.int .i64 k] w fun e w'=>e=.returned (.int .i64 1)∧w=w':=by
 obtain ⟨z,L,rfl,rfl,rfl,h⟩:=hm
 exact zup_no k w h hk
theorem manswer_no (k:Int) (hk:inB k c.co=false):Calls Tryz.prog 90 #[.pointer (some ⟨sy,0,none⟩),.int .i64 k] w fun e w'=>e=.returned (.int .i64 1)∧w=w':=by
 obtain ⟨z,L,rfl,rfl,rfl,h⟩:=hm
 exact zanswer_no k w h hk
theorem mhear_no (k:Int) (hk:inB k c.co=false):Calls Tryz.prog 91 #[.pointer (some ⟨sy,0,none⟩),.int .i64 k] w fun e w'=>e=.returned (.tuple #[.agg (msc msZ),.int .i64 1])∧Chg [] w w':=by
 obtain ⟨z,L,rfl,rfl,rfl,h⟩:=hm
 exact zhear_no k w h hk
theorem mdrop_off (k:Int) (hk:inB k c.li=false):Calls Tryz.prog 96 #[.pointer (some ⟨sy,0,none⟩),.int .i64 k] w fun e w'=>e=.returned (.int .i64 1)∧w=w':=by
 obtain ⟨z,L,rfl,rfl,rfl,h⟩:=hm
 exact zdrop_off k w h hk
theorem mdrain_off (k:Int) (hk:inB k c.li=false):Calls Tryz.prog 97 #[.pointer (some ⟨sy,0,none⟩),.int .i64 k] w fun e w'=>e=.returned (.int .i64 1)∧w=w':=by
 obtain ⟨z,L,rfl,rfl,rfl,h⟩:=hm
 exact zdrain_off k w h hk
end
theorem mnew_none (W w:World) (c:Cg) (hc:c.Ok) (hW:Chg [] W w) (A:Option Addr) (nc:Nat):Calls Tryz.prog 33 #[.agg c.cells,.slice A 0 nc] w fun e w'=>∃sy F,e=.returned (.tuple #[.pointer (some ⟨sy,0,none⟩),.int .i64 0])∧Mem W w' c sy F (List.replicate c.co (pt0 c)) (List.replicate c.li enE) [] (List.replicate (c.li*8) 0)∧Chg [] w w'∧∀k∈F,w.heap.size≤k:=
 (znew_none W w c hc hW A nc).mono fun e w' ⟨z,L,he,hm,hp,hc,hk⟩=>⟨z.sy,z.all L,he,⟨z,L,rfl,rfl,hp,hm⟩,hc,hk⟩
end
section
set_option maxHeartbeats 1000000
set_option maxRecDepth 100000
attribute [local go_sem ↓] Qv QF Qy QO QE Qs Zg Q6 ZF Zu Qk Qh heap_alloc Ql heap_setCell Qc XG XJ XI Zi ZK Zt Xc ZL Xm Xl Xr Xq
attribute [local go_sem] Qb Qa Qd Qi Qe Qg Qf Qt Zk Zf ZD QB Qw QN QL QM Q5 QK QA Qr QD QW QJ Qq QC Qp Qj Qo Qn Qm Zj Zv lit8 QS Z2 ZE ZG ZN Zn ZH Xb ZI QH ZJ Zy Zz QV QU Za Xs
attribute [local simp ↓] Qk Qh heap_alloc Ql heap_setCell Qc
attribute [local simp] Qb Qa Qd Qi Qe Qg Qf Qt Qr Qj Qo Qn Qm QS QH QV QU Za QD
attribute [local go_sem ↓] Qa0 Qa1 Qaz Qay Qa3 Qa2 Qax Qa6
attribute [local go_sem] Jb Qaw Ja XN XR Zh Jo X5 Qa9 Z1 Zp Zo Zm Zr Zq Zl Ze Zd ZC ZB Jk X1
attribute [local simp] Zh ZB Zp Zo Zm Zr Zq Zl Ze Zd ZC
attribute [local go_sem ↓] Jn X0 Jm XZ X9
attribute [local go_sem] Ji Jh X4 Jj QR QT Yp
attribute [local simp] X9 QR QT QD Z1
attribute [local go_sem ↓] Yx Y4 Y5 J8
attribute [local simp] Yx
attribute [local go_sem ↓] Qgq cg_li cg_vo cg_qu
attribute [local go_sem] Qgm Qbp Qgv Qds
section
variable {W w:World} {c:Cg} {sy:Nat} {F:List Nat} {ps:List Pt} {en:List En} {es:List Ent} {xs:List Int} (hm:Mem W w c sy F ps en es xs)
include hm
end
def kc:Cg:=⟨2,6,1,1,2,2,2⟩
theorem kc_ok:kc.Ok:=⟨by decide,by decide,by decide,by decide,by decide,by decide,by decide,by decide,by decide,by decide,by decide⟩
def ke3:En:=⟨true,true,[0,7,0,0,0,0,0,0], -1,3#8,0,0,0#8,rfl⟩
theorem results_cg {fn:Func} {p:Tmp} (h:fn.results=#[.cell p 23]) (tmps:Array Value) (w:World) (b:Nat) (x:Cg) (fr:Nat×Nat)
 (hp:tmps.getD p undef=.pointer (some ⟨b,0,none⟩)) (hb:w.heap[b]? =some (.cells x.cells 23 fr)):(results fn tmps).run Tryz.prog w=.ok (.agg x.cells) w:=by
 have hp':tmps[p]?.getD undef=.pointer (some ⟨b,0,none⟩):=by simpa using hp
 have:=run_loadVar_row (P:=Tryz.prog) w b 23 23 x.cells fr _ hb Tryz.underlying23 rfl (by rw [Qbp];kernel_rfl)
 simp [results,h,hp',asAddr,this]
def cgZ:Cg:=⟨0,0,0,0,0,0,0⟩
theorem kc_lit:(#[.int .i64 2,.int .i64 6,.int .i64 1,.int .i64 1,.int .i64 2,.int .i64 2,.int .i64 2]:Array Value)=kc.cells:=rfl
theorem storeCg (x y:Value):Instr.storeAt 23 x y=Qag 23 7 x y:=rfl
attribute [local go_sem ↓] storeCg
theorem kplain (w:World):Calls Tryz.prog 31 #[] w fun e w'=>e=.returned (.agg kc.cells)∧Chg [] w w':=by
 go_enter Tryz.func31,Tryz.ntmps31
 try dsimp only [List.append]
 go_wp2_with fail
 refine bodyPost_ret (v:=.agg kc.cells) ?_ (by rfl) ?_
 ·exact results_cg (by rfl) _ _ w.heap.size kc (0,0) (by rfl) (by rw [←kc_lit];simp)
 ·exact ⟨rfl,by (repeat' (first |with_reducible exact Chg.refl _ _|with_reducible assumption|with_reducible refine Chg.drew ?_|with_reducible refine Chg.drewN ?_ _|with_reducible refine Chg.alloc ?_ _|with_reducible refine Chg.putRow ?_ _ _ _ (.inr ?_)|with_reducible refine Chg.setCell ?_ _ _ _ (.inr ?_)|(show _≤_;first |exact Nat.le_refl _|omega|(simp;done))))⟩
theorem enc_part (z:Lay) (c:Cg) (t:TypeId) (f:Nat×Nat):XM (some (.cells (z.enc c).toArray t f)) 0 7=c.cells:=by
 rw [XH];rfl
theorem enc_in (z:Lay) (c:Cg) (t:TypeId) (f:Nat×Nat):Qbq (some (.cells (z.enc c).toArray t f)) 0 7=true:=by
 rw [Qi]
 exact decide_eq_true (show 0+7≤(z.enc c).toArray.size by simp [Lay.enc,Cg.enc])
theorem zconfig_ok {W w:World} {c:Cg} {z:Lay} {L:List (Po×Pt)} {en:List En} {es:List Ent} {xs:List Int} (h:Msd W w c z L en es xs):Calls Tryz.prog 46 #[.pointer (some ⟨z.sy,0,none⟩)] w fun e w'=>e=.returned (.agg c.cells)∧Chg [] w w':=by
 have rS:=h.sys
 have oS:=old rS
 have p0:=fun t f=>enc_part z c t f
 have p1:=fun t f=>enc_in z c t f
 clear h
 go_enter Tryz.func46,Tryz.ntmps46
 try dsimp only [List.append]
 go_wp2_with fail
 refine bodyPost_ret (v:=.agg c.cells) ?_ (by rfl) ?_
 ·exact results_cg (by rfl) _ _ w.heap.size c (0,0) (by rfl) (by rw [Qc _ _ _ _ _ (by rw [Qbm];rfl),if_pos rfl,Qbm];exact Qg _ _ _ _ (by rw [Qbp];rfl))
 ·exact ⟨rfl,by (repeat' (first |with_reducible exact Chg.refl _ _|with_reducible assumption|with_reducible refine Chg.drew ?_|with_reducible refine Chg.drewN ?_ _|with_reducible refine Chg.alloc ?_ _|with_reducible refine Chg.putRow ?_ _ _ _ (.inr ?_)|with_reducible refine Chg.setCell ?_ _ _ _ (.inr ?_)|(show _≤_;first |exact Nat.le_refl _|omega|(simp;done))))⟩
theorem J2 {W w:World} {c:Cg} {sy:Nat} {F:List Nat} {ps:List Pt} {en:List En} {es:List Ent} {xs:List Int} (hm:Mem W w c sy F ps en es xs):Calls Tryz.prog 46 #[.pointer (some ⟨sy,0,none⟩)] w fun e w'=>e=.returned (.agg c.cells)∧Chg [] w w':=by
 obtain ⟨z,L,rfl,rfl,rfl,h⟩:=hm
 exact zconfig_ok h
theorem kfield_sh (W:World):(Instr.field 120 (.agg (ec ke3)) 4).run Tryz.prog W=.ok (.int .u8 3) W:=by kernel_rfl
theorem kfield_co (W:World):(Instr.field 23 (.agg kc.cells) 0).run Tryz.prog W=.ok (.int .i64 2) W:=by kernel_rfl
attribute [local go_sem ↓] kfield_sh kfield_co
end
section
set_option maxHeartbeats 1000000
set_option maxRecDepth 100000
attribute [local go_sem ↓] Qv QF Qy QO QE Qs Zg Q6 ZF Zu Qk Qh heap_alloc Ql heap_setCell Qc XG XJ XI Zi ZK Zt Xc ZL Xm Xl Xr Xq
attribute [local go_sem] Qb Qa Qd Qi Qe Qg Qf Qt Zk Zf ZD QB Qw QN QL QM Q5 QK QA Qr QD QW QJ Qq QC Qp Qj Qo Qn Qm Zj Zv lit8 QS Z2 ZE ZG ZN Zn ZH Xb ZI QH ZJ Zy Zz QV QU Za Xs
attribute [local simp ↓] Qk Qh heap_alloc Ql heap_setCell Qc
attribute [local simp] Qb Qa Qd Qi Qe Qg Qf Qt Qr Qj Qo Qn Qm QS QH QV QU Za QD
attribute [local go_sem ↓] Qa0 Qa1 Qaz Qay Qa3 Qa2 Qax Qa6
attribute [local go_sem] Jb Qaw Ja XN XR Zh Jo X5 Qa9 Z1 Zp Zo Zm Zr Zq Zl Ze Zd ZC ZB Jk X1
attribute [local simp] Zh ZB Zp Zo Zm Zr Zq Zl Ze Zd ZC
attribute [local go_sem ↓] Jn X0 Jm XZ X9
attribute [local go_sem] Ji Jh X4 Jj QR QT Yp
attribute [local simp] X9 QR QT QD Z1
attribute [local go_sem ↓] Yx Y4 Y5 J8
attribute [local simp] Yx
structure MStp where
 kd:Int
 co:Int
 li:Int
 wd:Int
 v:Int
def mstc (x:MStp):Array Value:=#[.int .i64 x.kd,.int .i64 x.co,.int .i64 x.li,.int .i64 x.wd,.int .u64 x.v]
theorem mstc_size (x:MStp):(mstc x).size=5:=rfl
theorem mstc_0 (x:MStp):(mstc x)[0]? =some (.int .i64 x.kd):=rfl
theorem mstc_1 (x:MStp):(mstc x)[1]? =some (.int .i64 x.co):=rfl
theorem mstc_2 (x:MStp):(mstc x)[2]? =some (.int .i64 x.li):=rfl
theorem mstc_3 (x:MStp):(mstc x)[3]? =some (.int .i64 x.wd):=rfl
theorem mstc_4 (x:MStp):(mstc x)[4]? =some (.int .u64 x.v):=rfl
attribute [local go_sem ↓] mstc_0 mstc_1 mstc_2 mstc_3 mstc_4
attribute [local go_sem] mstc_size
theorem znew_zero (w:World):Calls Tryz.prog 33 #[.agg #[.int .i64 0,.int .i64 0,.int .i64 0,.int .i64 0,.int .i64 0,.int .i64 0,.int .i64 0],.slice none 0 0] w fun e w'=>e=.returned (.tuple #[.pointer none,.int .i64 1])∧Chg [] w w':=by
 have hg:Qcr 0 0 0 0 0 0 0=false:=by decide
 go_enter Tryz.func33,Tryz.ntmps33
 try dsimp only [List.append]
 go_wp2_with fail
 refine (good_any 0 0 0 0 0 0 0 _).mono ?_
 rintro e w2 ⟨rfl,hw2⟩
 have c2:Chg [] w w2:=by subst hw2;exact ((Chg.refl [] w).alloc _).alloc _
 clear hw2
 rw [hg]
 go_wp2_with fail
 go_ret2
 exact ⟨rfl,c2⟩
theorem cgZ_field (W:World):(Instr.field 23 (.agg cgZ.cells) 0).run Tryz.prog W=.ok (.int .i64 0) W:=by kernel_rfl
attribute [local go_sem ↓] cgZ_field
end
section
set_option maxHeartbeats 1000000
attribute [local go_sem ↓] Qv QF Qy QO Zi QE Qs Zg Q6 ZK Zt Qk Qh heap_alloc Ql heap_setCell Qc Xm Xl Xr Xq
attribute [local go_sem] Qb Qa Qd Qi Qe Qg Qf Qt Zk Zf ZH QB Qw QN QL QM Q5 ZI QK QA Qr QD QW QJ Qq QC Qp Qj Qo Qn Qm Zv lit8 QH ZJ Zy Zz
attribute [local simp ↓] Qk Qh heap_alloc Ql heap_setCell Qc
attribute [local simp] Qb Qa Qd Qi Qe Qg Qf Qt Qr Qj Qo Qn Qm QH
attribute [local go_sem ↓] Qa0 Qa1 Qaz Qay Qa3 Qa2 Qax Qa6
attribute [local go_sem] Jb Qaw Ja XN XR Zh Jo X5 Qa9 Z1 Zp Zo Zm Zr Zq Zl Ze Zd ZC ZB Jk X1
attribute [local simp] Zh ZB Zp Zo Zm Zr Zq Zl Ze Zd ZC
attribute [local go_sem ↓] Jn X0 Jm XZ
attribute [local go_sem] Ji Jh
attribute [local go_sem] X4
attribute [local go_sem] Jj
attribute [local go_sem ↓] X9
attribute [local simp] X9
attribute [local go_sem] QR QT
attribute [local simp] QR QT QD Z1
def SdsV (w:World) (xs:List Sd):Ending→World→Prop:=fun e w'=>∃A c be,e=.returned (.slice A xs.length c)∧Vec 13 238 Sd.enc w' 0 be A c xs∧(be=0∨w.heap.size≤be)∧Chg [] w w'
theorem dtellv_any (s:Mk) (m:Ms) (w:World) (h0:Old w 0):Calls Tryz.prog 179 #[.int .u8 (mi s),.agg (msc m)] w (SdsV w (Xt s m)):=by
 have H0:=Vh h0
 have h8:=cores_len s
 clear h0
 go_enter Tryz.func179,Tryz.ntmps179
 try dsimp only [List.append]
 go_wp2_with fail
 refine gen_calls1 (w:=w) (b1:=w.heap.size) (x1:=.cells (msc m) 196 (0,0)) Cz1 (by simp) fun w1 C1 rM=>?_
 have oM:=old rM
 refine (gcores_any s w1 (H0.out.chg C1)).mono ?_
 rintro e w2 ⟨A,cp0,rfl,hs,hA,c2⟩
 have rM2:=c2.keep rM (by simp)
 have HA:=Vh hs
 have C2:=Vh (C1.trans c2)
 have HL:∃n,n=(Qa4 s).length:=⟨_,rfl⟩
 obtain ⟨N,hN⟩:=HL
 rw [←hN] at HA h8 ⊢
 have HN:=Vh hN
 clear hs hA c2 C1 rM oM hN
 go_wp2_with fail
 go_loopw [5,11] (fun x i wr=>∃(k be cp:Nat) (B:Option Addr) (xs:List Sd),k≤N∧i=.int .i64 k∧xs=(Xt s m).take k∧x=.slice B xs.length cp∧Chg [] w2 wr∧Vec 13 238 Sd.enc wr 0 be B cp xs∧(be=0∨w2.heap.size≤be)) (fun _ i _=>N-(intOf i).toNat)
 case atStart=>exact ⟨0,0,0,none,[],by omega,rfl,rfl,rfl,Chg.refl _ _,Vec.nil _ _ _ _ _,.inl rfl⟩
 case round=>
  obtain ⟨k,be,cp,B,xs,hk,rfl,hxs,rfl,hc,hvb,hbe⟩:=hrel
  by_cases hlt:k<N
  ·have g1:(k:Int)<(N:Int):=by omega
   have g0:(0:Int)≤(k:Int):=by omega
   have g2:(N:Int)≤8:=by omega
   obtain ⟨b,o,rfl⟩:=HA.out.addr (by omega)
   obtain ⟨cs,t,f,hb,hcell⟩:=(HA.out.chg hc (by simp)).cell hlt
   obtain ⟨y,hy⟩:∃y,(Qa4 s)[k]? =some y:=⟨(Qa4 s)[k]'Cz12,List.getElem?_eq_getElem _⟩
   rw [List.getElem?_map,hy] at hcell
   simp only [Option.map_some] at hcell
   have rMr:=hc.keep rM2 (by simp)
   have oM:=old rMr
   have ht:xs++[⟨y,m⟩]=(Xt s m).take (k+1):=by rw [hxs,List.take_add_one];simp [Xt,hy]
   have hlen:xs.length≤8:=by rw [hxs,List.length_take];omega
   obtain ⟨be',cap',A',w3,happ,hv2,hbe2,hc2⟩:=Vec.acc (ty:=228) eltSd (hc.alloc (.cells (sc ⟨y,m⟩) 238)) (hvb.keep ((Chg.refl [] wr).alloc (.cells (sc ⟨y,m⟩) 238)) (by simp)) hbe ((H0.out.chg C2.out)) (sd_slice wr ⟨y,m⟩) (c:=1) rfl (by omega) Cz17
   have HT:=Vh ht
   have HL:=Vh (show xs.length+1=(xs++[(⟨y,m⟩:Sd)]).length by rw [List.length_append];rfl)
   have HV2:=Vh hv2
   have HB2:=Vh hbe2
   have HC2:=Vh hc2
   have hsd:=fun C h h0=>sd_lit y m C h h0
   clear hvb hc hbe hy ht hlen hv2 hbe2 hc2 hxs
   go_wp2_with fail
   go_roundw
   case rel=>exact ⟨k+1,be',cap',A',xs++[⟨y,m⟩],by omega,by go_num,HT.out,by rw [←HL.out],HC2.out,HV2.out,HB2.out⟩
   case measure=>simp [intOf];omega
  ·obtain rfl:k=N:=by omega
   have hall:xs=Xt s m:=by rw [hxs];exact List.take_of_length_le (by rw [HN.out];simp [Xt])
   have HV:=Vh hvb
   have HC:=Vh (C2.out.trans hc)
   have HB:=Vh (show be=0∨w.heap.size≤be by have:=C2.out.size;omega)
   clear hvb hc hbe hxs
   go_wp2_with fail
   go_ret
   rw [←hall]
   exact ⟨_,_,_,rfl,HV.out,HB.out,HC.out⟩
end
section
set_option maxHeartbeats 1000000
set_option maxRecDepth 100000
attribute [local go_sem ↓] Qv QF Qy QO Zi QE Qs Zg Q6 ZK Zt Qk Qh heap_alloc Ql heap_setCell Qc Xm Xl Xr Xq
attribute [local go_sem] Qb Qa Qd Qi Qe Qg Qf Qt Zk Zf ZH QB Qw QN QL QM Q5 ZI QK QA Qr QD QW QJ Qq QC Qp Qj Qo Qn Qm Zv lit8 QH ZJ Zy Zz
attribute [local simp ↓] Qk Qh heap_alloc Ql heap_setCell Qc
attribute [local simp] Qb Qa Qd Qi Qe Qg Qf Qt Qr Qj Qo Qn Qm QH
attribute [local go_sem ↓] Qa0 Qa1 Qaz Qay Qa3 Qa2 Qax Qa6
attribute [local go_sem] Jb Qaw Ja XN XR Zh Jo X5 Qa9 Z1 Zp Zo Zm Zr Zq Zl Ze Zd ZC ZB Jk X1
attribute [local simp] Zh ZB Zp Zo Zm Zr Zq Zl Ze Zd ZC
attribute [local go_sem ↓] Jn X0 Jm XZ X9
attribute [local go_sem] Ji Jh X4 Jj QR QT Yp
attribute [local simp] X9 QR QT QD Z1
theorem dtellv4_any (s:Mk) (kd li:Int) (di ke:Bool) (w:World) (h0:Old w 0):Calls Tryz.prog 179 #[.int .u8 (mi s),.agg #[.int .i64 kd,.int .i64 li,.bool di,.bool ke,.int .u64 0,.int .u64 0,.int .u64 0,.int .u64 0,.int .u64 0,.int .u64 0,.int .u64 0,.int .u64 0]] w (SdsV w (Xt s (ms4 kd li di ke)))
 :=dtellv_any s (ms4 kd li di ke) w h0
def En3V (w:World) (r:(En×List Sd)×Int):Ending→World→Prop:=fun e w'=>∃A c be,e=.returned (.tuple #[.agg (ec r.1.1),.slice A r.1.2.length c,.int .i64 r.2])∧Vec 13 238 Sd.enc w' 0 be A c r.1.2∧(be=0∨w.heap.size≤be)∧Chg [] w w'
theorem En3V.err (w w':World) (n:Int) (h:Chg [] w w'):En3V w ((enZ,[]),n) (.returned (.tuple #[.agg (ec enZ),.slice none 0 0,.int .i64 n])) w':=⟨none,0,0,rfl,.inl ⟨rfl,rfl,rfl,rfl⟩,.inl rfl,h⟩
theorem Qgu (x:En) (w:World) (h0:Old w 0):Calls Tryz.prog 130 #[.agg (ec x)] w (En3V w (Qc0 x)):=by
 cases hr:JJ x
 ·rw [show Qc0 x=((enZ,[]),16) from by simp [Qc0,hr]]
  go_enter Tryz.func130,Tryz.ntmps130
  try dsimp only [List.append]
  go_wp2_with fail
  refine gen_calls2 (w:=w) (b1:=w.heap.size) (x1:=.cells (ec (x)) 120 (0,0)) (b2:=w.heap.size+1) (x2:=.cells (ec (enZ)) 120 (0,0)) Cz0 (by simp [*]) (by simp [*]) fun w1 C1 rE rR=>?_
  have oE:=old rE
  have oR:=old rR
  refine (dready_at x _ hr w1).mono ?_
  rintro e w3 ⟨rfl,c3⟩
  have rE3:=c3.keep rE (by simp)
  have rR3:=c3.keep rR (by simp)
  have C3:=C1.trans c3
  clear rE rR oE oR C1 c3
  have oE3:=old rE3
  have oR3:=old rR3
  go_wp2_with fail
  refine bodyPost_ret (v:=.tuple #[.agg (ec enZ),.slice none 0 0,.int .i64 16]) ?_ (by rfl) ?_
  ·exact Xo (by rfl) _ _ (w.heap.size+1) enZ (0,0) (by rfl) (by simp [rR3];try rfl) _ _ (by rfl) (by rfl)
  exact En3V.err _ _ _ Cz0
 ·rw [show Qc0 x=(((Jf x).setDi false,Xt (bitM x.by_) (ms4 14 0 false false)),0) from by simp [Qc0,hr]]
  go_enter Tryz.func130,Tryz.ntmps130
  try dsimp only [List.append]
  go_wp2_with fail
  refine gen_calls2 (w:=w) (b1:=w.heap.size) (x1:=.cells (ec (x)) 120 (0,0)) (b2:=w.heap.size+1) (x2:=.cells (ec (enZ)) 120 (0,0)) Cz0 (by simp [*]) (by simp [*]) fun w1 C1 rE rR=>?_
  have oE:=old rE
  have oR:=old rR
  refine (dready_at x _ hr w1).mono ?_
  rintro e w3 ⟨rfl,c3⟩
  have rE3:=c3.keep rE (by simp)
  have rR3:=c3.keep rR (by simp)
  have C3:=C1.trans c3
  clear rE rR oE oR C1 c3
  have oE3:=old rE3
  have oR3:=old rR3
  go_wp2_with fail
  refine (Qik x w3).mono ?_
  rintro e w4 ⟨rfl,c4⟩
  have rE4:=c4.keep rE3 (by simp)
  have rR4:=c4.keep rR3 (by simp)
  have C4:=C3.trans c4
  clear rE3 rR3 oE3 oR3 C3 c4
  have oE4:=old rE4
  have oR4:=old rR4
  go_wp2_with fail
  refine J3 (w:=w) (b1:=w.heap.size) (x1:=.cells (ec ((Jf x).setDi false)) 120 (0,0)) (b2:=w.heap.size+1) (x2:=.cells (ec (enZ)) 120 (0,0)) Cz0 Cz9 Cz9 fun w1 C1 rE rR=>?_
  have oE:=old rE
  have oR:=old rR
  have o0:=h0.chg C1
  go_region_held3 (fun w'=>w'.heap[w.heap.size]? =some (.cells (ec ((Jf x).setDi false)) 120 (0,0))) (first |exact rE|exact c2.keep rE (by simp)|exact c2.keep (by simp [*]) (by simp)|simp [*])
   (first
    |(go_at_call 180;refine (Yv _ _).mono ?_;rintro e w' ⟨rfl,rfl⟩)
    |(go_at_call 179;refine (dtellv4_any _ _ _ _ _ _ Cz7).mono ?_;rintro e w' ⟨A2,n2,be,rfl,hs2,hA2,c2⟩;(have hA3:be=0∨w1.heap.size≤be:=(by simpa using hA2));(first |(have rR2:=c2.keep rR (by simp))|(have rR2:=c2.keep (x:=.cells (ec ((Jf x).setDi false)) 120 (0,0)) (k:=w.heap.size+1) (by simp [rR]) (by simp)))))
  all_goals
   go_wp2_with fail
   refine bodyPost_ret (v:=.tuple #[.agg (ec ((Jf x).setDi false)),.slice A2 (Xt (bitM x.by_) (ms4 14 0 false false)).length n2,.int .i64 0]) ?_ (by rfl) ?_
   ·exact Xo (by rfl) _ _ (w.heap.size+1) _ (0,0) (by rfl) Cz8 _ _ (by rfl) (by rfl)
   refine ⟨A2,n2,be,rfl,?_,hA3.imp id (Nat.le_trans C1.size),by (repeat' (first |with_reducible exact Chg.refl _ _|with_reducible assumption|with_reducible refine Chg.drew ?_|with_reducible refine Chg.drewN ?_ _|with_reducible refine Chg.alloc ?_ _|with_reducible refine Chg.putRow ?_ _ _ _ (.inr ?_)|with_reducible refine Chg.setCell ?_ _ _ _ (.inr ?_)|with_reducible refine Chg.trans ?_ c2|with_reducible refine Chg.trans (b:=World.drew _) ?_ c2|(show _≤_;first |exact Nat.le_refl _|omega|(simp;done))))⟩
   first
    |exact hs2
    |exact hs2.keep ((Chg.refl [w.heap.size+1] _).putRow _ _ _ (.inl (by simp))) (by have:=oR.lt;simp;omega)
end
section
set_option maxHeartbeats 1000000
set_option maxRecDepth 100000
attribute [local go_sem ↓] Qv QF Qy QO QE Qs Zg Q6 ZF Zu Qk Qh heap_alloc Ql heap_setCell Qc XG XJ XI Zi ZK Zt Xc ZL Xm Xl Xr Xq
attribute [local go_sem] Qb Qa Qd Qi Qe Qg Qf Qt Zk Zf ZD QB Qw QN QL QM Q5 QK QA Qr QD QW QJ Qq QC Qp Qj Qo Qn Qm Zj Zv lit8 QS Z2 ZE ZG ZN Zn ZH Xb ZI QH ZJ Zy Zz QV QU Za Xs
attribute [local simp ↓] Qk Qh heap_alloc Ql heap_setCell Qc
attribute [local simp] Qb Qa Qd Qi Qe Qg Qf Qt Qr Qj Qo Qn Qm QS QH QV QU Za QD
attribute [local go_sem ↓] Qa0 Qa1 Qaz Qay Qa3 Qa2 Qax Qa6
attribute [local go_sem] Jb Qaw Ja XN XR Zh Jo X5 Qa9 Z1 Zp Zo Zm Zr Zq Zl Ze Zd ZC ZB Jk X1
attribute [local simp] Zh ZB Zp Zo Zm Zr Zq Zl Ze Zd ZC
attribute [local go_sem ↓] Jn X0 Jm XZ X9
attribute [local go_sem] Ji Jh X4 Jj QR QT Yp
attribute [local simp] X9 QR QT QD Z1
attribute [local go_sem ↓] Yx Y4 Y5 J8
attribute [local simp] Yx
section
variable {W:World} {c:Cg} {z:Lay} {L:List (Po×Pt)} {en:List En} {es:List Ent} {xs:List Int}
theorem zpush_off (k:Int) (w:World) (h:Msd W w c z L en es xs) (hk:inB k c.li=false):Calls Tryz.prog 93 #[.pointer (some ⟨z.sy,0,none⟩),.int .i64 k] w fun r w'=>r=.returned (.int .i64 1)∧w=w':=by
 have HH:=Vh h
 have HK:=Vh hk
 clear h hk
 go_enter Tryz.func93,Tryz.ntmps93
 try dsimp only [List.append]
 go_wp2_with (first |(go_at_call 78;refine (ZT k false HK.out _ HH.out).mono ?_;rintro e w' ⟨rfl,rfl⟩))
 go_ret
 exact ⟨rfl,rfl⟩
theorem zpush_wait (i:Nat) (e:En) (w:World) (h:Msd W w c z L en es xs) (hT:Tab W) (he:en[i]? =some e) (hd:JJ e=false):Calls Tryz.prog 93 #[.pointer (some ⟨z.sy,0,none⟩),.int .i64 i] w fun r w'=>r=.returned (.int .i64 16)∧Chg [] w w':=by
 have hi:i<c.li:=by rw [←h.lines];exact (Vg he).1
 have rS:=h.sys
 have rE:=h.ents
 have oS:=old rS
 have oE:=old rE
 have p0:=fun t f=>erow he t f
 have p1:=fun t f=>Qek he t f
 have g0:(0:Int)≤(i:Int):=by omega
 have g1:(i:Int)<(c.li:Int):=by omega
 have HH:=Vh h
 have HB:=Vh (show inB (i:Int) c.li=true by unfold inB;simp;omega)
 have HE:=Vh he
 have HT:=Vh (hT.keep h.chg (by simp)).old0
 have HP:=Vh (show Qc0 e=((enZ,[]),16) by unfold Qc0;rw [if_neg (by simp [hd])])
 have HK:=Vh (fun w1 (o:Old w1 0)=>HP.out▸Qgu e w1 o)
 clear h he hi hd hT
 go_enter Tryz.func93,Tryz.ntmps93
 try dsimp only [List.append]
 go_wp2_with (first |(go_at_call 78;refine (ZT (i:Int) true HB.out _ HH.out).mono ?_;rintro e w' ⟨rfl,rfl⟩))
 refine (HK.out _ HT.out).mono ?_
 rintro r w2 ⟨A,n,be1,rfl,hs,hA,hc⟩
 have HC:=Vh hc
 clear hs hA hc rS rE oS oE
 go_wp2_with fail
 go_ret
 exact ⟨rfl,HC.out.alloc _⟩
theorem MTo.aside {w w1 w2:World} {z':Lay} {L':List (Po×Pt)} {b:Nat} (h:MTo W w c z L z' L' en es xs w1) (hb:w.heap.size≤b) (hW:W.heap.size≤w.heap.size) (hn:b∉z'.all L') (hc:Chg [b] w1 w2):MTo W w c z L z' L' en es xs w2:=
 ⟨h.1.keepL hc (by simpa using hn) (by simp;omega),h.2.1.trans' hc (by simp;omega),h.2.2⟩
theorem list_set13 (l ys:List Value) (o:Nat) (v:Value) (h:(l.drop o).take 13=ys):((l.set (o+2) v).drop o).take 13=ys.set 2 v:=by
 subst h
 rw [List.drop_set,if_neg (by omega),show o+2-o=2 by omega,List.take_set]
theorem sd_line (tk k l:Int) (a b:Bool) (v:Int):(Sd.enc ⟨tk,ms4 k l a b⟩).set 2 (.int .i64 v)=Sd.enc ⟨tk,ms4 k v a b⟩:=by rfl
theorem zpush_go (i:Nat) (e:En) (w:World) (h:Msd W w c z L en es xs) (hT:Tab W) (he:en[i]? =some e) (hd:JJ e=true) (hc:isC e.by_=true) (hco:e.by_<c.co) (hg:mg (ms4 14 i false false)=true) (v:Int) (hv:Qai c es i e=v) (es':List Ent) (hs:Jl c es i e=es') (M:Nat) (hM:∀x∈ports L,x.dn.length≤M) (hMn:M+1≤1000):
 Calls Tryz.prog 93 #[.pointer (some ⟨z.sy,0,none⟩),.int .i64 i] w fun r w'=>(v≠0∧r=.returned (.int .i64 v)∧∃be',MTo W w c z L {z with be:=be'} L en es' xs w')∨
  (v=0∧r=.returned (.int .i64 0)∧∃be' ks' L',MTo W w c z L {z with be:=be',ks:=ks'} L' (en.set i ((Jf e).setDi false)) es' xs w'∧ports L'=Y9 (ports L) [⟨e.by_,ms4 14 i false false⟩]):=by
 have hi:i<c.li:=by rw [←h.lines];exact (Vg he).1
 have rS:=h.sys
 have rE:=h.ents
 have oS:=old rS
 have oE:=old rE
 have p0:=fun t f=>erow he t f
 have p1:=fun t f=>Qek he t f
 have g0:(0:Int)≤(i:Int):=by omega
 have g1:(i:Int)<(c.li:Int):=by omega
 have HH:=Vh h
 have HB:=Vh (show inB (i:Int) c.li=true by unfold inB;simp;omega)
 have HE:=Vh he
 have HT0:=Vh (hT.keep h.chg (by simp)).old0
 have HT:=Vh hT
 have HP:=Vh (show Qc0 e=(((Jf e).setDi false,[⟨e.by_,ms4 14 0 false false⟩]),0) by unfold Qc0;rw [if_pos hd,Qg6 hc])
 have HK:=Vh (fun w1 (o:Old w1 0)=>HP.out▸Qgu e w1 o)
 have HS:=Vh (fun w1 (c1:Chg [] w w1)=>hs▸hv▸zsave_ok i e w1 (h.keep c1) he)
 have HMM:=Vh hM
 have HMN:=Vh hMn
 have HG:=Vh hg
 have HCO:=Vh hco
 have HC:=Vh (show 0≤e.by_ by unfold isC at hc;simp at hc;omega)
 have HEX:=Vh (show ∃e',(Jf e).setDi false=e' from ⟨_,rfl⟩)
 clear h he hi hd hv hs hT hM hMn hg hco hc
 obtain ⟨e',he'⟩:=HEX.out
 rw [he'] at HK ⊢
 have HE':=Vh he'
 clear he' HEX HP
 go_enter Tryz.func93,Tryz.ntmps93
 try dsimp only [List.append]
 go_wp2_with (first |(go_at_call 78;refine (ZT (i:Int) true HB.out _ HH.out).mono ?_;rintro e w' ⟨rfl,rfl⟩))
 refine (HK.out _ HT0.out).mono ?_
 rintro r w2 ⟨A,n,b,rfl,hs,hA,hc⟩
 rcases hs with ⟨_,_,_,hs⟩|⟨hb0,rfl,_,r0,rb,_⟩
 ·cases hs
 have hbw:w.heap.size≤b:=hA.resolve_left hb0
 have hx:((sq Sd.enc [(⟨e.by_,ms4 14 0 false false⟩:Sd)] r0).toList.drop 0).take 13=Sd.enc ⟨e.by_,ms4 14 0 false false⟩:=by
  simp [sq,cat,Sd.len]
 generalize sq Sd.enc [(⟨e.by_,ms4 14 0 false false⟩:Sd)] r0=cs at rb hx
 have HX:=Vh hx
 have C2:=Vh hc
 have HBW:=Vh hbw
 have ob:=old rb
 clear hx hc hA hbw hb0 rS rE oS oE
 go_wp2_with fail
 have r3:(w2.alloc (.cells (ec e') 120)).heap[w2.heap.size]? =some (.cells (ec e') 120 (0,0)):=Qbm _ _
 have C3:=Vh (C2.out.alloc (.cells (ec e') 120))
 have HW3:=Vh (show w.heap.size≤w2.heap.size from C2.out.size)
 replace rb:=((Chg.refl [] w2).alloc (.cells (ec e') 120)).keep rb Vn
 have nb3:b≠w2.heap.size:=by have:=ob.lt;omega
 generalize w2.heap.size=b3 at r3 HW3 nb3 ⊢
 generalize w2.alloc (.cells (ec e') 120)=w3 at r3 C3 rb ⊢
 clear ob
 have HNB:=Vh (show b∉z.all L from fun hm=>by have h1:=HH.out.old b hm;have h2:=HBW.out;omega)
 have HN3:=Vh (show b3∉z.all L from fun hm=>by have h1:=HH.out.old b3 hm;have h2:=HW3.out;omega)
 have HL3:=Vh (Xe rb)
 refine (HS.out _ C3.out).mono ?_
 rintro r w4 ⟨rfl,be',M4⟩
 have HM4:=Vh M4
 replace rb:=M4.2.1.keep rb HNB.out
 replace r3:=M4.2.1.keep r3 HN3.out
 clear M4 C2
 have ob:=old rb
 have o3:=old r3
 by_cases hv:v=0
 ·obtain rfl:=hv
  have HZB:=Vh (show b∉({z with be:=be'}:Lay).all L from fun hm=>by rcases HM4.out.2.2 b hm with h1|h1;exact HNB.out h1;have:=HL3.out;omega)
  go_wp2_with fail
  go_loopw [37] (fun ix wr=>∃(j:Nat) (cs':Array Value),j≤1∧ix=.int .i64 j∧Chg [b] w4 wr∧wr.heap[b]? =some (.cells cs' 238 (0,0))∧(j=0→cs'=cs)∧(j=1→cs'=cs.setIfInBounds 2 (.int .i64 i))) (fun ix _=>1-(intOf ix).toNat)
  case atStart=>exact ⟨0,cs,by omega,rfl,Chg.refl _ _,rb,fun _=>rfl,by omega⟩
  case round=>
   obtain ⟨j,cs',hj,rfl,hc,hb,h0,h1⟩:=hrel
   have r3':=hc.keep r3 (by simp;omega)
   have HC0:=Vh hc
   have H1:=Vh h1
   clear hc h1 rb r3 ob o3
   by_cases hlt:j<1
   ·obtain rfl:j=0:=by omega
    obtain rfl:=h0 rfl
    have hcl:cs'[2]? =some (.int .i64 0):=by
     have h2:=congrArg (fun l=>l[2]?) HX.out
     rw [List.getElem?_take_of_lt (by omega),List.getElem?_drop,Array.getElem?_toList] at h2
     exact h2
    clear h0 hlt hj
    have ob:=old hb
    go_wp2_with fail
    refine ⟨⟨1,cs'.setIfInBounds 2 (.int .i64 i),by omega,rfl,HC0.out.setCell _ _ _ (.inl (by simp)),by rw [heap_setCell,if_pos rfl,hb];rfl,by omega,fun _=>rfl⟩,by simp [intOf]⟩
   ·obtain rfl:j=1:=by omega
    obtain rfl:=H1.out rfl
    have hsl:Sl wr 13 (some ⟨b,0,none⟩) 1 (cat Sd.enc [⟨e.by_,ms4 14 i false false⟩]):=⟨by simp [cat,Sd.len],.inr ⟨b,0,_,238,(0,0),rfl,hb,by
     rw [Array.toList_setIfInBounds,list_set13 _ _ 0 _ HX.out,sd_line];simp [cat]⟩⟩
    have HM5:=Vh (((HH.out.stay C3.out).trans HM4.out).aside HBW.out HH.out.chg.size HZB.out HC0.out)
    have hbec:=Qdv i e e' (some ⟨b,0,none⟩) 1 n [⟨e.by_,ms4 14 i false false⟩] wr HM5.out.1 HT.out HE.out rfl hsl (fun _ a ha=>by cases ha;exact HZB.out) (by
     intro d hd
     simp only [List.mem_singleton] at hd
     subst hd
     exact ⟨HC.out,HCO.out,HG.out⟩) M HMM.out HMN.out
    have HBE:=Vh hbec
    clear hsl hbec h0 hb hlt hj
    have o3:=old r3'
    go_wp2_with fail
    refine HBE.out.mono ?_
    rintro r w6 ⟨rfl,L',M6,hp⟩
    have HM6:=Vh (HM5.out.trans M6)
    have HPP:=Vh hp
    clear M6 hp r3' o3
    go_wp2_with fail
    refine (HM6.out.1.count 13 (by decide) (by decide)).mono ?_
    rintro r w7 ⟨⟨v,rfl⟩,ks',M7⟩
    have HM7:=Vh (HM6.out.trans M7)
    clear M7
    go_wp2_with fail
    go_ret
    have hfin:∃be' ks' L',MTo W w c z L {z with be:=be',ks:=ks'} L' (en.set i e') es' xs w7∧ports L'=Y9 (ports L) [⟨e.by_,ms4 14 i false false⟩]:=⟨be',ks',L',HM7.out,HPP.out⟩
    first
     |exact .inr ⟨rfl,rfl,hfin⟩
     |exact ⟨rfl,hfin⟩
 ·have tv:(v !=0)=true:=by simpa using hv
  go_wp2_with fail
  go_ret
  first
   |exact .inl ⟨hv,rfl,be',(HH.out.stay C3.out).trans HM4.out⟩
   |exact ⟨rfl,be',(HH.out.stay C3.out).trans HM4.out⟩
end
end
section
set_option maxHeartbeats 1000000
set_option maxRecDepth 100000
attribute [local go_sem ↓] Qv QF Qy QO QE Qs Zg Q6 ZF Zu Qk Qh heap_alloc Ql heap_setCell Qc XG XJ XI Zi ZK Zt Xc ZL Xm Xl Xr Xq
attribute [local go_sem] Qb Qa Qd Qi Qe Qg Qf Qt Zk Zf ZD QB Qw QN QL QM Q5 QK QA Qr QD QW QJ Qq QC Qp Qj Qo Qn Qm Zj Zv lit8 QS Z2 ZE ZG ZN Zn ZH Xb ZI QH ZJ Zy Zz QV QU Za Xs
attribute [local simp ↓] Qk Qh heap_alloc Ql heap_setCell Qc
attribute [local simp] Qb Qa Qd Qi Qe Qg Qf Qt Qr Qj Qo Qn Qm QS QH QV QU Za QD
attribute [local go_sem ↓] Qa0 Qa1 Qaz Qay Qa3 Qa2 Qax Qa6
attribute [local go_sem] Jb Qaw Ja XN XR Zh Jo X5 Qa9 Z1 Zp Zo Zm Zr Zq Zl Ze Zd ZC ZB Jk X1
attribute [local simp] Zh ZB Zp Zo Zm Zr Zq Zl Ze Zd ZC
attribute [local go_sem ↓] Jn X0 Jm XZ X9
attribute [local go_sem] Ji Jh X4 Jj QR QT Yp
attribute [local simp] X9 QR QT QD Z1
section
variable {W w w':World} {c:Cg} {sy:Nat} {F:List Nat} {ps:List Pt} {en:List En} {es:List Ent} {xs:List Int} (hm:Mem W w c sy F ps en es xs)
include hm
theorem mpush_off (k:Int) (hk:inB k c.li=false):Calls Tryz.prog 93 #[.pointer (some ⟨sy,0,none⟩),.int .i64 k] w fun e w'=>e=.returned (.int .i64 1)∧w=w':=by
 obtain ⟨z,L,rfl,rfl,rfl,h⟩:=hm
 exact zpush_off k w h hk
theorem mpush_wait (i:Nat) (e:En) (hT:Tab W) (he:en[i]? =some e) (hd:JJ e=false):Calls Tryz.prog 93 #[.pointer (some ⟨sy,0,none⟩),.int .i64 i] w fun r w'=>r=.returned (.int .i64 16)∧Chg [] w w':=by
 obtain ⟨z,L,rfl,rfl,rfl,h⟩:=hm
 exact zpush_wait i e w h hT he hd
theorem mpush_go (i:Nat) (e:En) (hT:Tab W) (he:en[i]? =some e) (hd:JJ e=true) (hc:isC e.by_=true) (hco:e.by_<c.co) (hg:mg (ms4 14 i false false)=true) (v:Int) (hv:Qai c es i e=v) (es':List Ent) (hs:Jl c es i e=es') (M:Nat) (hM:∀x∈ps,x.dn.length≤M) (hMn:M+1≤1000):
 Calls Tryz.prog 93 #[.pointer (some ⟨sy,0,none⟩),.int .i64 i] w fun r w'=>(v≠0∧r=.returned (.int .i64 v)∧MemTo W w c sy F ps en es' xs w')∨(v=0∧r=.returned (.int .i64 0)∧MemTo W w c sy F (Y9 ps [⟨e.by_,ms4 14 i false false⟩]) (en.set i ((Jf e).setDi false)) es' xs w'):=by
 obtain ⟨z,L,rfl,rfl,rfl,h⟩:=hm
 refine (zpush_go i e w h hT he hd hc hco hg v hv es' hs M hM hMn).mono fun r w' hr2=>?_
 rcases hr2 with ⟨h1,h2,be',M1⟩|⟨h1,h2,be',ks',L',M1,hp2⟩
 ·exact .inl ⟨h1,h2,MemTo.of M1 rfl rfl⟩
 ·exact .inr ⟨h1,h2,MemTo.of M1 rfl hp2⟩
end
end
section
set_option maxHeartbeats 1000000
def way1 (st:Int):Nat:=if 3<st then 1 else 0
section
variable {S N:Nat} {s:Sta} (hg:Good S N s.1) (hs:Sane s.1)
include hg hs
end
end
section
set_option maxHeartbeats 1000000
structure OnceAt (S M:Nat) (xs:List Slt) (u:Int):Prop where
 good:Good S M xs
 apart:∀(i j:Nat) (x y:Slt),xs[i]? =some x→xs[j]? =some y→i≠j→x.st≠0→y.st≠0→x.li≠y.li∧x.us≠y.us
 top:∀x∈xs,x.st≠0→x.us≤u
 pos:∀x∈xs,x.st≠0→1≤x.st
theorem OnceAt.new {S M:Nat} (h:Good S M (List.replicate (S*M) sltZ)):OnceAt S M (List.replicate (S*M) sltZ) 0:=by
 have hz:∀x∈List.replicate (S*M) sltZ,x.st=0:=fun x hx=>by rw [List.eq_of_mem_replicate hx];rfl
 refine ⟨h,?_,?_,?_⟩
 ·intro i j x y hx _ _ h0 _
  exact absurd (hz x (List.mem_of_getElem? hx)) h0
 ·intro x hx h0;exact absurd (hz x hx) h0
 ·intro x hx h0;exact absurd (hz x hx) h0
theorem OnceAt.put {S M:Nat} {xs:List Slt} {u:Int} (h:OnceAt S M xs u) {p:Nat} {y:Slt} (hg:Good S M (xs.set p y)) (hu:y.us=u+1) (hs:1≤y.st) (hno:∀(j:Nat) (z:Slt),xs[j]? =some z→j≠p→z.st≠0→z.li≠y.li):OnceAt S M (xs.set p y) (u+1):=by
 have hset:∀(i:Nat) (z:Slt),(xs.set p y)[i]? =some z→(i=p∧z=y)∨(i≠p∧xs[i]? =some z):=by
  intro i z hz
  rw [List.getElem?_set] at hz
  split at hz
  ·rename_i e
   split at hz
   ·injection hz with hz
    exact .inl ⟨e.symm,hz.symm⟩
   ·cases hz
  ·rename_i e
   exact .inr ⟨fun e2=>e e2.symm,hz⟩
 refine ⟨hg,?_,?_,?_⟩
 ·intro i j x z hx hz hij h0 h1
  rcases hset i x hx with ⟨e1,rfl⟩|⟨e1,hx'⟩
  ·rcases hset j z hz with ⟨e2,rfl⟩|⟨e2,hz'⟩
   ·omega
   ·have h2:=hno j z hz' e2 h1
    have h3:=h.top z (List.mem_of_getElem? hz') h1
    exact ⟨fun e=>h2 e.symm,by omega⟩
  ·rcases hset j z hz with ⟨e2,rfl⟩|⟨e2,hz'⟩
   ·have h2:=hno i x hx' e1 h0
    have h3:=h.top x (List.mem_of_getElem? hx') h0
    exact ⟨h2,by omega⟩
   ·exact h.apart i j x z hx' hz' hij h0 h1
 ·intro x hx h0
  rcases List.mem_or_eq_of_mem_set hx with h1|rfl
  ·have:=h.top x h1 h0;omega
  ·omega
 ·intro x hx h0
  rcases List.mem_or_eq_of_mem_set hx with h1|rfl
  ·exact h.pos x h1 h0
  ·exact hs
theorem OnceAt.find {S M:Nat} {xs:List Slt} {u:Int} (h:OnceAt S M xs u) {i:Nat} {y:Slt} (hy:xs[i]? =some y) (h0:y.st≠0):xs.findIdx (XQ y.li)=i∧Qx xs y.li=y∧XD xs y.li=true:=by
 have hi:=(Vg hy).1
 have e:xs.findIdx (XQ y.li)=i:=by
  rcases hit_or (XQ y.li) xs with ⟨k,z,e1,e2,e3,e4,e5,e6⟩|⟨e1,e2,e3⟩
  ·obtain ⟨h1,h2⟩:=Qbl e4
   by_cases hk:k=i
   ·omega
   ·exact absurd h2 (h.apart k i z y e3 hy hk h1 h0).1
  ·have:=e3 y (List.mem_of_getElem? hy)
   simp [XQ,h0] at this
 refine ⟨e,?_,?_⟩
 ·unfold Qx;rw [e,hy]
 ·unfold XD;rw [e];simpa using hi
theorem OnceAt.other {S M:Nat} {xs:List Slt} {u:Int} (h:OnceAt S M xs u) {i:Nat} {y:Slt} (hy:xs[i]? =some y) (h0:y.st≠0):∀(j:Nat) (z:Slt),xs[j]? =some z→j≠i→z.st≠0→z.li≠y.li:=
 fun j z hz hj hz0=>(h.apart j i z y hz hy hj hz0 h0).1
theorem OnceAt.set {S M:Nat} {xs:List Slt} {u:Int} (h:OnceAt S M xs u) (li st:Int) (l:List Int) (hl:l.length=8):OnceAt S M (setXs S M xs u li st l hl) (setU S M xs u li st):=by
 have hg:=h.good.setXs u li st l hl
 unfold setXs setU at *
 by_cases hb:Qbb li st
 ·rw [if_pos hb,if_pos hb];exact h
 rw [if_neg hb] at hg
 rw [if_neg hb,if_neg hb]
 have hst:1≤st:=by unfold Qbb at hb;omega
 rcases h.good.where li with ⟨k,y,e1,e2,hk,hy,h0,hli,_,e3,e4,e5⟩|⟨e1,e2,e3,e4⟩
 ·have ep:Qc1 S M xs li=XF S li*M+k:=by unfold Qc1;rw [e2,if_pos e5]
  rw [ep] at hg ⊢
  rw [if_pos e5]
  refine h.put hg rfl hst ?_
  intro j z hz hj hz0
  have:=h.other hy h0 j z hz hj hz0
  rw [hli] at this
  exact this
 ·rcases h.good.room li with ⟨k,y,d1,hk,hy,hst0,d3,d4,_⟩|⟨d1,d2,d3⟩
  ·have ep:Qc1 S M xs li=XF S li*M+k:=by unfold Qc1;rw [e3,d1,if_neg (by omega),if_pos hk]
   rw [ep] at hg ⊢
   rw [if_pos d4]
   refine h.put hg rfl hst ?_
   intro j z hz hj hz0 e
   have:=e4 z (List.mem_of_getElem? hz)
   simp [XQ,hz0] at this
   exact this e
  ·have ep:Qc1 S M xs li=xs.length:=by unfold Qc1;rw [e3,d2,if_neg (by omega),if_neg (by omega)]
   rw [ep,Qhb,if_neg (by omega)]
   exact h
theorem OnceAt.touch {S M:Nat} {xs:List Slt} {u:Int} (h:OnceAt S M xs u) (li:Int):OnceAt S M (touchXs xs u li) (Qde xs u li):=by
 have hg:=h.good.touchXs u li
 unfold touchXs Qde at *
 rcases hit_or (XQ li) xs with ⟨k,y,e1,e2,e3,e4,e5,e6⟩|⟨e1,e2,e3⟩
 ·obtain ⟨h1,h2⟩:=Qbl e4
  rw [e2,e3] at hg ⊢
  rw [if_pos e5]
  exact h.put hg rfl (h.pos y (List.mem_of_getElem? e3) h1) (fun j z hz hj hz0=>h.other e3 h1 j z hz hj hz0)
 ·rw [e2,List.getElem?_eq_none (Nat.le_refl _),if_neg (by omega)]
  exact h
theorem OnceAt.drop {S M:Nat} {xs:List Slt} {u:Int} (h:OnceAt S M xs u) (li:Int):OnceAt S M (dropXs xs li) u:=by
 have hg:=h.good.dropXs li
 unfold dropXs at *
 have hset:∀(i:Nat) (z:Slt),(xs.set (xs.findIdx (XQ li)) sltZ)[i]? =some z→z.st≠0→xs[i]? =some z:=by
  intro i z hz h0
  rw [List.getElem?_set] at hz
  split at hz
  ·split at hz
   ·injection hz with hz
    rw [←hz] at h0
    exact absurd rfl h0
   ·cases hz
  ·exact hz
 refine ⟨hg,?_,?_,?_⟩
 ·intro i j x y hx hy hij h0 h1
  exact h.apart i j x y (hset i x hx h0) (hset j y hy h1) hij h0 h1
 ·intro x hx h0
  obtain ⟨i,hi⟩:=List.getElem?_of_mem hx
  exact h.top x (List.mem_of_getElem? (hset i x hi h0)) h0
 ·intro x hx h0
  obtain ⟨i,hi⟩:=List.getElem?_of_mem hx
  exact h.pos x (List.mem_of_getElem? (hset i x hi h0)) h0
end
section
set_option maxHeartbeats 1000000
theorem Qdn {xs:List Slt} {li:Int} (h:∀x∈xs,XQ li x=false):Qx xs li=sltZ:=by
 rcases Qb4 xs li with ⟨h1,h2,_⟩|⟨h1,_⟩
 ·rw [h _ h1] at h2;cases h2
 ·exact h1
theorem Qhl {S M:Nat} {xs:List Slt} {u:Int} (h:OnceAt S M xs u) (li:Int):(∃(i:Nat) (z:Slt),xs[i]? =some z∧z.st≠0∧z.li=li∧Qx xs li=z∧xs.findIdx (XQ li)=i)∨(Qx xs li=sltZ∧∀x∈xs,XQ li x=false):=by
 rcases Qb4 xs li with ⟨h1,h2,_⟩|⟨h1,_,h2⟩
 ·left
  obtain ⟨i,hi⟩:=List.getElem?_of_mem h1
  obtain ⟨a,b⟩:=Qbl h2
  refine ⟨i,_,hi,a,b,rfl,?_⟩
  have:=(h.find hi a).1
  rw [b] at this
  exact this
 ·exact .inr ⟨h1,h2⟩
theorem OnceAt.putFind {S M:Nat} {xs:List Slt} {u u':Int} (h:OnceAt S M xs u) {p:Nat} {x y:Slt} {li:Int} (hp:xs[p]? =some x) (hx:x.st=0∨x.li=li) (hy0:y.st≠0) (hyl:y.li=li) (h':OnceAt S M (xs.set p y) u'):
 Qx (xs.set p y) li=y∧∀li',li'≠li→Qx (xs.set p y) li'=Qx xs li':=by
 have hpl:=(Vg hp).1
 have hyp:(xs.set p y)[p]? =some y:=by rw [List.getElem?_set];simp [hpl]
 refine ⟨?_,fun li' hne=>?_⟩
 ·have:=(h'.find hyp hy0).2.1
  rw [hyl] at this
  exact this
 ·rcases Qhl h li' with ⟨i,z,hi,hz,hzl,e,_⟩|⟨e,hn⟩
  ·have hip:i≠p:=by
    rintro rfl
    rw [hp] at hi
    injection hi with hi
    subst hi
    rcases hx with h1|h1
    ·exact hz h1
    ·exact hne (hzl.symm.trans h1)
   have hi':(xs.set p y)[i]? =some z:=by rw [List.getElem?_set_ne (fun e=>hip e.symm)];exact hi
   have:=(h'.find hi' hz).2.1
   rw [hzl] at this
   rw [e,this]
  ·rw [e]
   apply Qdn
   intro w hw
   rcases List.mem_or_eq_of_mem_set hw with h1|rfl
   ·exact hn w h1
   ·simp [XQ,hyl];intro _;exact fun e=>hne e.symm
theorem OnceAt.dropFind {S M:Nat} {xs:List Slt} {u:Int} (h:OnceAt S M xs u) (li:Int):Qx (dropXs xs li) li=sltZ∧∀li',li'≠li→Qx (dropXs xs li) li'=Qx xs li':=by
 have h':=h.drop li
 rcases Qhl h li with ⟨p,x,hp,hx,hxl,_,hf⟩|⟨_,hn⟩
 ·unfold dropXs at h' ⊢
  rw [hf] at h' ⊢
  have hpl:=(Vg hp).1
  refine ⟨?_,fun li' hne=>?_⟩
  ·apply Qdn
   intro w hw
   obtain ⟨j,hj⟩:=List.getElem?_of_mem hw
   rw [List.getElem?_set] at hj
   split at hj
   ·rename_i hjp
    subst hjp
    injection hj with hj;subst hj;rfl
   ·rename_i hjp
    by_cases hw0:w.st=0
    ·simp [XQ,hw0]
    ·have:=h.other hp hx j w hj (fun e=>hjp e.symm) hw0
     rw [hxl] at this
     simp [XQ,this]
  ·rcases Qhl h li' with ⟨i,z,hi,hz,hzl,e,_⟩|⟨e,hn⟩
   ·have hip:i≠p:=by
     rintro rfl
     rw [hp] at hi
     injection hi with hi
     subst hi
     exact hne (hzl.symm.trans hxl)
    have hi':(xs.set p sltZ)[i]? =some z:=by rw [List.getElem?_set_ne (fun e=>hip e.symm)];exact hi
    have:=(h'.find hi' hz).2.1
    rw [hzl] at this
    rw [e,this]
   ·rw [e]
    apply Qdn
    intro w hw
    rcases List.mem_or_eq_of_mem_set hw with h1|rfl
    ·exact hn w h1
    ·rfl
 ·have e:dropXs xs li=xs:=by
   unfold dropXs
   rw [List.findIdx_eq_length.2 hn]
   exact List.set_eq_of_length_le (Nat.le_refl _)
  rw [e]
  exact ⟨Qdn hn,fun _ _=>rfl⟩
structure AJ (S N n:Nat) (s:Sta):Prop where
 once:OnceAt S N s.1 s.2
 sane:Sane s.1
 pos:0≤s.2
 lines:∀x∈s.1,x.st≠0→x.li<n
theorem AJ.good {S N n:Nat} {s:Sta} (h:AJ S N n s):Good S N s.1:=h.once.good
def vw (s:Sta) (li:Int):Int×List Int:=((Qx s.1 li).st,(Qx s.1 li).l)
theorem AJ.line {S N n:Nat} {s:Sta} (h:AJ S N n s) {li:Int} (h0:(vw s li).1≠0):0≤li∧li<n∧(Qx s.1 li).li=li∧XD s.1 li=true:=by
 obtain ⟨h1,h2⟩:=find_line (show (Qx s.1 li).st≠0 from h0)
 rcases Qb4 s.1 li with ⟨h3,_,_⟩|⟨h3,_⟩
 ·have h4:=h.lines _ h3 h0
  obtain ⟨i,hi⟩:=List.getElem?_of_mem h3
  have h5:=(h.good.home i _ hi h0).1
  rw [h1] at h4 h5
  exact ⟨h5,h4,h1,h2⟩
 ·exact absurd (show (Qx s.1 li).st=0 by rw [h3];rfl) h0
section
variable {S N n:Nat} {s:Sta} (h:AJ S N n s)
include h
theorem AJ.sane1 (li:Int):0≤(vw s li).1∧(vw s li).1≤9:=Qdm h.sane li
theorem AJ.set {li st:Int} (hn:li<n) (l:List Int) (hl:l.length=8) (hs:st≤9):AJ S N n (setS S N s li st l hl):=by
 refine ⟨h.once.set li st l hl,h.sane.set li st l hl,Int.le_trans h.pos Qhy.1,?_⟩
 intro x hx h0
 have e:(setS S N s li st l hl).1=setXs S N s.1 s.2 li st l hl:=rfl
 rw [e] at hx
 unfold setXs at hx
 split at hx
 ·exact h.lines x hx h0
 ·rcases List.mem_or_eq_of_mem_set hx with h1|rfl
  ·exact h.lines x h1 h0
  ·exact hn
theorem AJ.touch (li:Int):AJ S N n (Qeg s li):=by
 refine ⟨h.once.touch li,h.sane.touch li,Int.le_trans h.pos touchS_u.1,?_⟩
 intro x hx h0
 have e:(Qeg s li).1=touchXs s.1 s.2 li:=rfl
 rw [e] at hx
 unfold touchXs at hx
 split at hx
 ·rename_i y hy
  rcases List.mem_or_eq_of_mem_set hx with h1|rfl
  ·exact h.lines x h1 h0
  ·exact h.lines y (List.mem_of_getElem? hy) h0
 ·exact h.lines x hx h0
theorem AJ.drop (li:Int):AJ S N n (Qij s li):=by
 refine ⟨h.once.drop li,h.sane.drop li,h.pos,?_⟩
 intro x hx h0
 rcases List.mem_or_eq_of_mem_set hx with h1|rfl
 ·exact h.lines x h1 h0
 ·exact absurd rfl h0
theorem AJ.vwSet {li st:Int} (h0:0≤li) (h1:1≤st) (h9:st≤9) (hr:XD s.1 li=true∨Jr S N s.1 li=true) (l:List Int) (hl:l.length=8):
 vw (setS S N s li st l hl) li=(st,l)∧∀li',li'≠li→vw (setS S N s li st l hl) li'=vw s li':=by
 have hb:¬Qbb li st:=by unfold Qbb;omega
 have ho:=h.once.set li st l hl
 have e:(setS S N s li st l hl).1=setXs S N s.1 s.2 li st l hl:=rfl
 unfold vw
 rw [e]
 unfold setXs at ho ⊢
 rw [if_neg hb] at ho ⊢
 have hx:∃x,s.1[Qc1 S N s.1 li]? =some x∧(x.st=0∨x.li=li):=by
  by_cases hd:s.1.findIdx (XQ li)<s.1.length
  ·unfold Qc1
   rw [if_pos hd]
   refine ⟨_,List.getElem?_eq_getElem hd,.inr ?_⟩
   exact (Qbl (List.findIdx_getElem (w:=hd))).2
  ·have hr':Jr S N s.1 li=true:=by
    rcases hr with h2|h2
    ·unfold XD at h2;exact absurd (of_decide_eq_true h2) hd
    ·exact h2
   unfold Jr at hr'
   simp at hr'
   unfold Qc1
   rw [if_neg hd,if_pos hr'.2]
   have h3:XF S li*N+(seg N s.1 (XF S li)).findIdx Qcd<s.1.length:=by
    have:=h.good.fit li
    have:=h.good.len
    omega
   refine ⟨_,List.getElem?_eq_getElem h3,.inl ?_⟩
   have h4:(seg N s.1 (XF S li)).findIdx Qcd<(seg N s.1 (XF S li)).length:=by
    rw [h.good.seg_len];exact hr'.2
   have h5:=List.findIdx_getElem (w:=h4)
   have h6:=Qh0 s.1 (XF S li) _ hr'.2
   rw [List.getElem?_eq_getElem h4,List.getElem?_eq_getElem h3] at h6
   injection h6 with h6
   rw [h6] at h5
   simpa [Qcd] using h5
 obtain ⟨x,hp,hx⟩:=hx
 obtain ⟨a,b⟩:=h.once.putFind hp hx (y:=⟨st,li,l,s.2+1,hl⟩) (by show st≠0;omega) rfl ho
 exact ⟨by rw [a],fun li' hne=>by rw [b li' hne]⟩
theorem AJ.vwTouch (li li':Int):vw (Qeg s li) li'=vw s li':=by
 have ho:=h.once.touch li
 unfold vw
 have e:(Qeg s li).1=touchXs s.1 s.2 li:=rfl
 rw [e]
 unfold touchXs at ho ⊢
 rcases Qhl h.once li with ⟨p,x,hp,hx,hxl,hfv,hf⟩|⟨_,hn⟩
 ·rw [hf,hp] at ho ⊢
  obtain ⟨a,b⟩:=h.once.putFind hp (.inr hxl) (y:=x.use (s.2+1)) hx hxl ho
  by_cases hne:li'=li
  ·subst hne
   rw [hfv]
   show ((Qx (s.1.set p (x.use (s.2+1))) li').st,(Qx (s.1.set p (x.use (s.2+1))) li').l)=_
   rw [a];rfl
  ·show ((Qx (s.1.set p (x.use (s.2+1))) li').st,(Qx (s.1.set p (x.use (s.2+1))) li').l)=_
   rw [b li' hne]
 ·rw [List.findIdx_eq_length.2 hn,List.getElem?_eq_none (Nat.le_refl _)]
theorem AJ.vwDrop (li:Int):(vw (Qij s li) li).1=0∧∀li',li'≠li→vw (Qij s li) li'=vw s li':=by
 obtain ⟨a,b⟩:=h.once.dropFind li
 unfold vw
 have e:(Qij s li).1=dropXs s.1 li:=rfl
 rw [e]
 exact ⟨by rw [a];rfl,fun li' hne=>by rw [b li' hne]⟩
end
inductive AOk (li:Int):Int→List Int→Int→List Int→List Ms→Prop
 |askS (l l':List Int):AOk li 0 l 4 l' [ms4 1 li false false]
 |askM (l l':List Int):AOk li 0 l 5 l' [ms4 2 li false false]
 |up (l:List Int):AOk li 1 l 6 l [ms4 2 li false false]
 |outS (l:List Int):AOk li 1 l 7 l [ms4 3 li false false]
 |outE (l:List Int):AOk li 2 l 7 l [ms4 3 li false false]
 |outM (l:List Int) (m:Ms) (hk:m.kd=3) (hl:m.li=li) (hd:m.di=true) (hke:m.ke=false) (hm:m.l=l):AOk li 3 l 9 l [m]
def Asks (n:Nat) (s s':Sta) (ms:List Ms):Prop:=
 (ms=[]∧∀li,vw s' li=vw s li)∨∃li:Int,0≤li∧li<n∧AOk li (vw s li).1 (vw s li).2 (vw s' li).1 (vw s' li).2 ms∧∀li',li'≠li→vw s' li'=vw s li'
theorem Asks.same (n:Nat) (s:Sta):Asks n s s []:=.inl ⟨rfl,fun _=>rfl⟩
section
variable {S N n:Nat} {s:Sta} (h:AJ S N n s)
include h
theorem AJ.outF (li:Int):AJ S N n (outF S N s li).1∧Asks n s (outF S N s li).1 (outF S N s li).2:=by
 cases hr:Ys (Qx s.1 li).st
 ·rw [show Go.Proofs.YtcgjofbkcgedfaaGreatDoor.outF S N s li=(s,[]) by unfold Go.Proofs.YtcgjofbkcgedfaaGreatDoor.outF;rw [if_neg (by simp [hr])]]
  exact ⟨h,.same n s⟩
 ·have hst:=(rest_iff _).1 hr
  obtain ⟨h0,hn,hl,hd⟩:=h.line (li:=li) (by show (Qx s.1 li).st≠0;omega)
  rw [show Go.Proofs.YtcgjofbkcgedfaaGreatDoor.outF S N s li=(setS S N s li (Qgz (Qx s.1 li).st) (Qx s.1 li).l (Qx s.1 li).h,[JL 3 (Qx s.1 li) false]) by unfold Go.Proofs.YtcgjofbkcgedfaaGreatDoor.outF;rw [if_pos hr]]
  have hnx:1≤Qgz (Qx s.1 li).st∧Qgz (Qx s.1 li).st≤9:=by unfold Qgz;split<;>omega
  obtain ⟨a,b⟩:=h.vwSet h0 hnx.1 hnx.2 (.inl hd) (Qx s.1 li).l (Qx s.1 li).h
  refine ⟨h.set hn _ _ hnx.2,.inr ⟨li,h0,hn,?_,b⟩⟩
  rw [a]
  show AOk li (Qx s.1 li).st (Qx s.1 li).l (Qgz (Qx s.1 li).st) (Qx s.1 li).l [JL 3 (Qx s.1 li) false]
  unfold Qgz JL
  generalize Qx s.1 li=x at hst hl
  have h3:x.st=1∨x.st=2∨x.st=3:=by omega
  rcases h3 with h3|h3|h3
  ·rw [h3,if_neg (by omega),if_neg (by omega),hl];exact .outS _
  ·rw [h3,if_neg (by omega),if_neg (by omega),hl];exact .outE _
  ·rw [h3,if_pos rfl,if_pos (.inl rfl)];exact .outM _ _ rfl hl rfl rfl rfl
theorem AJ.getF {li st kd:Int} (hk:(st=4∧kd=1)∨(st=5∧kd=2)) (h0:0≤li) (hn:li<n) (hz:(vw s li).1=0):AJ S N n (getF S N s li st kd).1∧Asks n s (getF S N s li st kd).1 (getF S N s li st kd).2:=by
 cases hr:Jr S N s.1 li
 ·rw [show Go.Proofs.YtcgjofbkcgedfaaGreatDoor.getF S N s li st kd=Go.Proofs.YtcgjofbkcgedfaaGreatDoor.outF S N s (Qaj S N s.1 li) by unfold Go.Proofs.YtcgjofbkcgedfaaGreatDoor.getF;rw [if_neg (by simp [hr])]]
  exact h.outF _
 ·rw [show Go.Proofs.YtcgjofbkcgedfaaGreatDoor.getF S N s li st kd=(setS S N s li st zl8 rfl,[ms4 kd li false false]) by unfold Go.Proofs.YtcgjofbkcgedfaaGreatDoor.getF;rw [if_pos hr]]
  obtain ⟨a,b⟩:=h.vwSet h0 (by omega:1≤st) (by omega) (.inr hr) zl8 rfl
  refine ⟨h.set hn _ _ (by omega),.inr ⟨li,h0,hn,?_,b⟩⟩
  rw [a,hz]
  rcases hk with ⟨rfl,rfl⟩|⟨rfl,rfl⟩
  ·exact .askS _ _
  ·exact .askM _ _
omit h in
theorem AJ.gone {li:Int} (hi:Qf8 s.1=true) (hm:Ys (vw s li).1=false):(vw s li).1=0:=by
 rcases idle_find hi li with h1|h1
 ·exact h1
 ·rw [show (vw s li).1=(Qx s.1 li).st from rfl,h1] at hm;cases hm
theorem AJ.loadF {li:Int} (hn:li<n) (k:Int):AJ S N n (loadF S N s li k).1∧Asks n s (loadF S N s li k).1 (loadF S N s li k).2.2.2∧((loadF S N s li k).2.2.1=true→mayR (vw s li).1=true∧isWd k=true∧isLn li=true∧(loadF S N s li k).2.1=(vw s li).2.getD k.toNat 0):=by
 unfold Go.Proofs.YtcgjofbkcgedfaaGreatDoor.loadF
 split
 ·rename_i hc
  rw [Bool.and_eq_true] at hc
  have h0:0≤li:=by have:=hc.1;simp [isLn] at this;exact this.1
  split
  ·rename_i hm
   exact ⟨h.touch li,.inl ⟨rfl,fun li'=>h.vwTouch li li'⟩,fun _=>⟨hm,hc.2,hc.1,rfl⟩⟩
  ·rename_i hm
   split
   ·rename_i hi
    have hz:=AJ.gone (li:=li) hi (by
     unfold mayR at hm
     cases h1:Ys (vw s li).1
     ·rfl
     ·rw [show Ys (Qx s.1 li).st=true from h1] at hm;simp at hm)
    obtain ⟨a,b⟩:=h.getF (.inl ⟨rfl,rfl⟩) h0 hn hz
    exact ⟨a,b,fun h=>by cases h⟩
   ·exact ⟨h,.same n s,fun h=>by cases h⟩
 ·exact ⟨h,.same n s,fun h=>by cases h⟩
theorem AJ.reachF {li:Int} (hn:li<n):AJ S N n (reachF S N s li).1∧Asks n s (reachF S N s li).1 (reachF S N s li).2:=by
 unfold Go.Proofs.YtcgjofbkcgedfaaGreatDoor.reachF
 split
 ·rename_i hc
  simp only [Bool.and_eq_true,Bool.not_eq_true'] at hc
  have h0:0≤li:=by have:=hc.1.1;simp [isLn] at this;exact this.1
  split
  ·rename_i hd
   have hst:(Qx s.1 li).st=1:=by
    rw [find_drop] at hd
    rcases idle_find hc.2 li with h1|h1
    ·rw [h1] at hd;cases hd
    ·have h2:=(rest_iff _).1 h1
     have h3:=hc.1.2
     unfold Qee mayWr at h3
     simp at h3
     omega
   obtain ⟨a,b⟩:=h.vwSet h0 (by decide:(1:Int)≤6) (by decide) (.inl hd) (Qx s.1 li).l (Qx s.1 li).h
   refine ⟨h.set hn _ _ (by decide),.inr ⟨li,h0,hn,?_,b⟩⟩
   rw [a]
   show AOk li (Qx s.1 li).st (Qx s.1 li).l 6 (Qx s.1 li).l _
   rw [hst]
   exact .up _
  ·rename_i hd
   refine h.getF (.inr ⟨rfl,rfl⟩) h0 hn ?_
   rw [find_drop] at hd
   show (Qx s.1 li).st=0
   simpa using hd
 ·exact ⟨h,.same n s⟩
theorem AJ.storeF {li:Int} (hn:li<n) (k v:Int):AJ S N n (storeF S N s li k v).1∧
 (((storeF S N s li k v).2.1=true∧isWd k=true∧isLn li=true∧((vw s li).1=2∨(vw s li).1=3)∧(storeF S N s li k v).2.2=[]∧vw (storeF S N s li k v).1 li=(3,(vw s li).2.set k.toNat v)∧∀li',li'≠li→vw (storeF S N s li k v).1 li'=vw s li')∨
  ((storeF S N s li k v).2.1=false∧Asks n s (storeF S N s li k v).1 (storeF S N s li k v).2.2)):=by
 unfold Go.Proofs.YtcgjofbkcgedfaaGreatDoor.storeF
 split
 ·rename_i hc
  rw [Bool.and_eq_true] at hc
  have h0:0≤li:=by have:=hc.1;simp [isLn] at this;exact this.1
  split
  ·rename_i ho
   have hst:(Qx s.1 li).st=2∨(Qx s.1 li).st=3:=by unfold Qee mayWr at ho;simpa using ho
   obtain ⟨_,_,_,hd⟩:=h.line (li:=li) (by show (Qx s.1 li).st≠0;omega)
   obtain ⟨a,b⟩:=h.vwSet h0 (by decide:(1:Int)≤3) (by decide) (.inl hd) ((Qx s.1 li).l.set k.toNat v) (by rw [List.length_set];exact (Qx s.1 li).h)
   exact ⟨h.set hn _ _ (by decide),.inl ⟨rfl,hc.2,hc.1,hst,rfl,a,b⟩⟩
  ·obtain ⟨a,b⟩:=h.reachF hn
   exact ⟨a,.inr ⟨rfl,b⟩⟩
 ·exact ⟨h,.inr ⟨rfl,.same n s⟩⟩
theorem AJ.evictF (li:Int):AJ S N n (evictF S N s li).1∧Asks n s (evictF S N s li).1 (evictF S N s li).2.1:=by
 unfold Go.Proofs.YtcgjofbkcgedfaaGreatDoor.evictF
 split
 ·exact h.outF li
 ·exact ⟨h,.same n s⟩
theorem AJ.hearF {m:Ms} (hg:(mg m&&Y1 m.kd)=true) (hn:m.li<n) (ht:tb m.kd (vw s m.li).1≠0):
 AJ S N n (hearF S N s m).1∧(hearF S N s m).2=(Z0 m.kd (Qx s.1 m.li) (tb m.kd (vw s m.li).1),0)∧(∀li',li'≠m.li→vw (hearF S N s m).1 li'=vw s li')∧
 ((tb m.kd (vw s m.li).1=10→(vw (hearF S N s m).1 m.li).1=0)∧(tb m.kd (vw s m.li).1=11→vw (hearF S N s m).1 m.li=vw s m.li)∧
  (tb m.kd (vw s m.li).1≠10→tb m.kd (vw s m.li).1≠11→vw (hearF S N s m).1 m.li=(tb m.kd (vw s m.li).1,Y0 m (Qx s.1 m.li) (tb m.kd (vw s m.li).1)))):=by
 unfold Go.Proofs.YtcgjofbkcgedfaaGreatDoor.hearF
 have e:(Qx s.1 m.li).st=(vw s m.li).1:=rfl
 rw [e,if_pos hg,if_neg ht]
 have hle:=tb_le m.kd (vw s m.li).1
 unfold Qfc
 by_cases h10:tb m.kd (vw s m.li).1=10
 ·rw [if_pos h10]
  obtain ⟨a,b⟩:=h.vwDrop m.li
  exact ⟨h.drop _,rfl,b,fun _=>a,fun h11=>by omega,fun h11=>absurd h10 h11⟩
 ·rw [if_neg h10]
  by_cases h11:tb m.kd (vw s m.li).1=11
  ·rw [if_pos h11]
   exact ⟨h,rfl,fun _ _=>rfl,fun h=>absurd h h10,fun _=>rfl,fun _ h=>absurd h11 h⟩
  ·rw [if_neg h11]
   have h14:m.kd≠14:=by intro h;apply h11;rw [h];rfl
   obtain ⟨h0,_,_,hd⟩:=h.line (li:=m.li) (tb_line ht h14)
   obtain ⟨a,b⟩:=h.vwSet h0 (by omega:1≤tb m.kd (vw s m.li).1) (by omega) (.inl hd) (Y0 m (Qx s.1 m.li) (tb m.kd (vw s m.li).1)) (Qdx _ _ _)
   exact ⟨h.set hn _ _ (by omega),rfl,b,fun h=>absurd h h10,fun h=>absurd h h11,fun _ _=>a⟩
end
end
end Go.Proofs.YtcgjofbkcgedfaaGreatDoor
