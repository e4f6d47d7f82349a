/- Texts of the walk, one behind the other: Word Wordb Wordc Mfj Mfk Mga Mgb Mgc. No condition. -/
import Derived.Test.YtadeoflkppiflaaGreatDoorSaa
import Derived.Test.YtadeoflkppiflaaGreatDoorSab
import Derived.Test.YtadeoflkppiflaaGreatDoorSaj
import Derived.BigGuard
import Derived.BigGuardPart
import Derived.BigQuiet
import Derived.Deep.Cut
import Derived.Deep.CutBlock
import Derived.Deep.CutRange
import Derived.Deep.DeepCutAuto
import Derived.Deep.QuietTactic
import Derived.Deep.RegionHeld3
import Derived.Deep.RegionWith
import Derived.Lib.Hide
import Derived.Test.YtadeoflkppiflaaGreatDoorChecked
import Derived.WalkKit
namespace Go.Proofs.YtadeoflkppiflaaGreatDoor
open Go.RowKit
set_option linter.unusedVariables false
set_option maxRecDepth 100000
section
theorem ZP (n a b:Int) (w:World) (h0:a≤n) (h1:n≤b):Calls Tryz.prog 95 #[.int .i64 n,.int .i64 a,.int .i64 b] w fun e w'=>e=.returned (.bool true)∧w=w':=by
 go_enter Tryz.func95,Tryz.ntmps95
 go_wp2
 go_ret
 exact ⟨rfl,rfl⟩
theorem JA (n a b:Int) (w:World) (h0:¬(a≤n∧n≤b)):Calls Tryz.prog 95 #[.int .i64 n,.int .i64 a,.int .i64 b] w fun e w'=>e=.returned (.bool false)∧w=w':=by
 by_cases h:a≤n
 ·have h7:decide (n≤b)=false:=by simp;omega
  clear h0
  go_enter Tryz.func95,Tryz.ntmps95
  go_wp2
  go_ret
  exact ⟨rfl,rfl⟩
 ·have h7:decide (a≤n)=false:=by simp;omega
  clear h0
  go_enter Tryz.func95,Tryz.ntmps95
  go_wp2
  go_ret
  exact ⟨rfl,rfl⟩
end
section
theorem Qfs (n:Int) (w:World) (h:n=1∨n=2∨n=4∨n=8):Calls Tryz.prog 96 #[.int .i64 n] w fun e w'=>e=.returned (.bool true)∧w=w':=by
 obtain rfl|rfl|rfl|rfl:=h
 all_goals
  go_enter Tryz.func96,Tryz.ntmps96
  go_wp2
  go_ret
  exact ⟨rfl,rfl⟩
theorem sets_no (n:Int) (w:World) (h:¬(n=1∨n=2∨n=4∨n=8)):Calls Tryz.prog 96 #[.int .i64 n] w fun e w'=>e=.returned (.bool false)∧w=w':=by
 have e1:(n==1)=false:=by simp;omega
 have e2:(n==2)=false:=by simp;omega
 have e3:(n==4)=false:=by simp;omega
 have e4:(n==8)=false:=by simp;omega
 clear h
 go_enter Tryz.func96,Tryz.ntmps96
 go_wp2
 go_ret
 exact ⟨rfl,rfl⟩
theorem good_0 (c0 c1 c2 c3 c4 c5 c6:Int) (w:World) (h:¬(1≤c0∧c0≤8)):Calls Tryz.prog 38 #[.agg #[.int .i64 c0,.int .i64 c1,.int .i64 c2,.int .i64 c3,.int .i64 c4,.int .i64 c5,.int .i64 c6]] w fun e w'=>e=.returned (.bool false)∧w'=w.alloc (.cells #[.int .i64 c0,.int .i64 c1,.int .i64 c2,.int .i64 c3,.int .i64 c4,.int .i64 c5,.int .i64 c6] 23):=by
 have H:=Vh h
 clear h
 go_enter Tryz.func38,Tryz.ntmps38
 go_wp2_with (first
  |(go_at_call_of 95 (Value.int .i64 c0);refine (JA _ _ _ _ H.out).mono ?_;rintro e w' ⟨rfl,rfl⟩))
 go_ret
 exact ⟨rfl,rfl⟩
theorem good_1 (c0 c1 c2 c3 c4 c5 c6:Int) (w:World) (p0:1≤c0) (q0:c0≤8) (h:¬(2≤c1∧c1≤64)):Calls Tryz.prog 38 #[.agg #[.int .i64 c0,.int .i64 c1,.int .i64 c2,.int .i64 c3,.int .i64 c4,.int .i64 c5,.int .i64 c6]] w fun e w'=>e=.returned (.bool false)∧w'=w.alloc (.cells #[.int .i64 c0,.int .i64 c1,.int .i64 c2,.int .i64 c3,.int .i64 c4,.int .i64 c5,.int .i64 c6] 23):=by
 have H:=Vh h
 clear h
 go_enter Tryz.func38,Tryz.ntmps38
 go_wp2_with (first
  |(go_at_call_of 95 (Value.int .i64 c0);refine (ZP _ _ _ _ p0 q0).mono ?_;rintro e w' ⟨rfl,rfl⟩)
  |(go_at_call_of 95 (Value.int .i64 c1);refine (JA _ _ _ _ H.out).mono ?_;rintro e w' ⟨rfl,rfl⟩))
 go_ret
 exact ⟨rfl,rfl⟩
theorem good_2 (c0 c1 c2 c3 c4 c5 c6:Int) (w:World) (p0:1≤c0) (q0:c0≤8) (p1:2≤c1) (q1:c1≤64) (h:¬(1≤c2∧c2≤c1-1)):Calls Tryz.prog 38 #[.agg #[.int .i64 c0,.int .i64 c1,.int .i64 c2,.int .i64 c3,.int .i64 c4,.int .i64 c5,.int .i64 c6]] w fun e w'=>e=.returned (.bool false)∧w'=w.alloc (.cells #[.int .i64 c0,.int .i64 c1,.int .i64 c2,.int .i64 c3,.int .i64 c4,.int .i64 c5,.int .i64 c6] 23):=by
 have H:=Vh h
 clear h
 go_enter Tryz.func38,Tryz.ntmps38
 go_wp2_with (first
  |(go_at_call_of 95 (Value.int .i64 c0);refine (ZP _ _ _ _ p0 q0).mono ?_;rintro e w' ⟨rfl,rfl⟩)
  |(go_at_call_of 95 (Value.int .i64 c1);refine (ZP _ _ _ _ p1 q1).mono ?_;rintro e w' ⟨rfl,rfl⟩)
  |(go_at_call_of 95 (Value.int .i64 c2);refine (JA _ _ _ _ H.out).mono ?_;rintro e w' ⟨rfl,rfl⟩))
 go_ret
 exact ⟨rfl,rfl⟩
theorem good_3 (c0 c1 c2 c3 c4 c5 c6:Int) (w:World) (p0:1≤c0) (q0:c0≤8) (p1:2≤c1) (q1:c1≤64) (p2:1≤c2) (q2:c2≤c1-1) (h:¬(c3=1∨c3=2∨c3=4∨c3=8)):Calls Tryz.prog 38 #[.agg #[.int .i64 c0,.int .i64 c1,.int .i64 c2,.int .i64 c3,.int .i64 c4,.int .i64 c5,.int .i64 c6]] w fun e w'=>e=.returned (.bool false)∧w'=w.alloc (.cells #[.int .i64 c0,.int .i64 c1,.int .i64 c2,.int .i64 c3,.int .i64 c4,.int .i64 c5,.int .i64 c6] 23):=by
 have H:=Vh h
 clear h
 go_enter Tryz.func38,Tryz.ntmps38
 go_wp2_with (first
  |(go_at_call_of 95 (Value.int .i64 c0);refine (ZP _ _ _ _ p0 q0).mono ?_;rintro e w' ⟨rfl,rfl⟩)
  |(go_at_call_of 95 (Value.int .i64 c1);refine (ZP _ _ _ _ p1 q1).mono ?_;rintro e w' ⟨rfl,rfl⟩)
  |(go_at_call_of 95 (Value.int .i64 c2);refine (ZP _ _ _ _ p2 q2).mono ?_;rintro e w' ⟨rfl,rfl⟩)
  |(go_at_call 96;refine (sets_no _ _ H.out).mono ?_;rintro e w' ⟨rfl,rfl⟩))
 go_ret
 exact ⟨rfl,rfl⟩
theorem good_4 (c0 c1 c2 c3 c4 c5 c6:Int) (w:World) (p0:1≤c0) (q0:c0≤8) (p1:2≤c1) (q1:c1≤64) (p2:1≤c2) (q2:c2≤c1-1) (s:c3=1∨c3=2∨c3=4∨c3=8) (h:¬(1≤c4∧c4≤8)):Calls Tryz.prog 38 #[.agg #[.int .i64 c0,.int .i64 c1,.int .i64 c2,.int .i64 c3,.int .i64 c4,.int .i64 c5,.int .i64 c6]] w fun e w'=>e=.returned (.bool false)∧w'=w.alloc (.cells #[.int .i64 c0,.int .i64 c1,.int .i64 c2,.int .i64 c3,.int .i64 c4,.int .i64 c5,.int .i64 c6] 23):=by
 have H:=Vh h
 clear h
 have S:=Vh s
 clear s
 go_enter Tryz.func38,Tryz.ntmps38
 go_wp2_with (first
  |(go_at_call_of 95 (Value.int .i64 c0);refine (ZP _ _ _ _ p0 q0).mono ?_;rintro e w' ⟨rfl,rfl⟩)
  |(go_at_call_of 95 (Value.int .i64 c1);refine (ZP _ _ _ _ p1 q1).mono ?_;rintro e w' ⟨rfl,rfl⟩)
  |(go_at_call_of 95 (Value.int .i64 c2);refine (ZP _ _ _ _ p2 q2).mono ?_;rintro e w' ⟨rfl,rfl⟩)
  |(go_at_call 96;refine (Qfs _ _ S.out).mono ?_;rintro e w' ⟨rfl,rfl⟩)
  |(go_at_call_of 95 (Value.int .i64 c4);refine (JA _ _ _ _ H.out).mono ?_;rintro e w' ⟨rfl,rfl⟩))
 go_ret
 exact ⟨rfl,rfl⟩
theorem good_5 (c0 c1 c2 c3 c4 c5 c6:Int) (w:World) (p0:1≤c0) (q0:c0≤8) (p1:2≤c1) (q1:c1≤64) (p2:1≤c2) (q2:c2≤c1-1) (s:c3=1∨c3=2∨c3=4∨c3=8) (p4:1≤c4) (q4:c4≤8) (h:¬(1≤c5∧c5≤16)):Calls Tryz.prog 38 #[.agg #[.int .i64 c0,.int .i64 c1,.int .i64 c2,.int .i64 c3,.int .i64 c4,.int .i64 c5,.int .i64 c6]] w fun e w'=>e=.returned (.bool false)∧w'=w.alloc (.cells #[.int .i64 c0,.int .i64 c1,.int .i64 c2,.int .i64 c3,.int .i64 c4,.int .i64 c5,.int .i64 c6] 23):=by
 have H:=Vh h
 clear h
 have S:=Vh s
 clear s
 go_enter Tryz.func38,Tryz.ntmps38
 go_wp2_with (first
  |(go_at_call_of 95 (Value.int .i64 c0);refine (ZP _ _ _ _ p0 q0).mono ?_;rintro e w' ⟨rfl,rfl⟩)
  |(go_at_call_of 95 (Value.int .i64 c1);refine (ZP _ _ _ _ p1 q1).mono ?_;rintro e w' ⟨rfl,rfl⟩)
  |(go_at_call_of 95 (Value.int .i64 c2);refine (ZP _ _ _ _ p2 q2).mono ?_;rintro e w' ⟨rfl,rfl⟩)
  |(go_at_call 96;refine (Qfs _ _ S.out).mono ?_;rintro e w' ⟨rfl,rfl⟩)
  |(go_at_call_of 95 (Value.int .i64 c4);refine (ZP _ _ _ _ p4 q4).mono ?_;rintro e w' ⟨rfl,rfl⟩)
  |(go_at_call_of 95 (Value.int .i64 c5);refine (JA _ _ _ _ H.out).mono ?_;rintro e w' ⟨rfl,rfl⟩))
 go_ret
 exact ⟨rfl,rfl⟩
theorem good_6 (c0 c1 c2 c3 c4 c5 c6:Int) (w:World) (p0:1≤c0) (q0:c0≤8) (p1:2≤c1) (q1:c1≤64) (p2:1≤c2) (q2:c2≤c1-1) (s:c3=1∨c3=2∨c3=4∨c3=8) (p4:1≤c4) (q4:c4≤8) (p5:1≤c5) (q5:c5≤16) (h:¬(1≤c6∧c6≤16)):Calls Tryz.prog 38 #[.agg #[.int .i64 c0,.int .i64 c1,.int .i64 c2,.int .i64 c3,.int .i64 c4,.int .i64 c5,.int .i64 c6]] w fun e w'=>e=.returned (.bool false)∧w'=w.alloc (.cells #[.int .i64 c0,.int .i64 c1,.int .i64 c2,.int .i64 c3,.int .i64 c4,.int .i64 c5,.int .i64 c6] 23):=by
 have H:=Vh h
 clear h
 have S:=Vh s
 clear s
 go_enter Tryz.func38,Tryz.ntmps38
 go_wp2_with (first
  |(go_at_call_of 95 (Value.int .i64 c0);refine (ZP _ _ _ _ p0 q0).mono ?_;rintro e w' ⟨rfl,rfl⟩)
  |(go_at_call_of 95 (Value.int .i64 c1);refine (ZP _ _ _ _ p1 q1).mono ?_;rintro e w' ⟨rfl,rfl⟩)
  |(go_at_call_of 95 (Value.int .i64 c2);refine (ZP _ _ _ _ p2 q2).mono ?_;rintro e w' ⟨rfl,rfl⟩)
  |(go_at_call 96;refine (Qfs _ _ S.out).mono ?_;rintro e w' ⟨rfl,rfl⟩)
  |(go_at_call_of 95 (Value.int .i64 c4);refine (ZP _ _ _ _ p4 q4).mono ?_;rintro e w' ⟨rfl,rfl⟩)
  |(go_at_call_of 95 (Value.int .i64 c5);refine (ZP _ _ _ _ p5 q5).mono ?_;rintro e w' ⟨rfl,rfl⟩)
  |(go_at_call_of 95 (Value.int .i64 c6);refine (JA _ _ _ _ H.out).mono ?_;rintro e w' ⟨rfl,rfl⟩))
 go_ret
 exact ⟨rfl,rfl⟩
theorem good_7 (c0 c1 c2 c3 c4 c5 c6:Int) (w:World) (p0:1≤c0) (q0:c0≤8) (p1:2≤c1) (q1:c1≤64) (p2:1≤c2) (q2:c2≤c1-1) (s:c3=1∨c3=2∨c3=4∨c3=8) (p4:1≤c4) (q4:c4≤8) (p5:1≤c5) (q5:c5≤16) (p6:1≤c6) (q6:c6≤16):Calls Tryz.prog 38 #[.agg #[.int .i64 c0,.int .i64 c1,.int .i64 c2,.int .i64 c3,.int .i64 c4,.int .i64 c5,.int .i64 c6]] w fun e w'=>e=.returned (.bool true)∧w'=w.alloc (.cells #[.int .i64 c0,.int .i64 c1,.int .i64 c2,.int .i64 c3,.int .i64 c4,.int .i64 c5,.int .i64 c6] 23):=by
 have S:=Vh s
 clear s
 go_enter Tryz.func38,Tryz.ntmps38
 go_wp2_with (first
  |(go_at_call_of 95 (Value.int .i64 c0);refine (ZP _ _ _ _ p0 q0).mono ?_;rintro e w' ⟨rfl,rfl⟩)
  |(go_at_call_of 95 (Value.int .i64 c1);refine (ZP _ _ _ _ p1 q1).mono ?_;rintro e w' ⟨rfl,rfl⟩)
  |(go_at_call_of 95 (Value.int .i64 c2);refine (ZP _ _ _ _ p2 q2).mono ?_;rintro e w' ⟨rfl,rfl⟩)
  |(go_at_call 96;refine (Qfs _ _ S.out).mono ?_;rintro e w' ⟨rfl,rfl⟩)
  |(go_at_call_of 95 (Value.int .i64 c4);refine (ZP _ _ _ _ p4 q4).mono ?_;rintro e w' ⟨rfl,rfl⟩)
  |(go_at_call_of 95 (Value.int .i64 c5);refine (ZP _ _ _ _ p5 q5).mono ?_;rintro e w' ⟨rfl,rfl⟩)
  |(go_at_call_of 95 (Value.int .i64 c6);refine (ZP _ _ _ _ p6 q6).mono ?_;rintro e w' ⟨rfl,rfl⟩))
 go_ret
 exact ⟨rfl,rfl⟩
def Ys (c0 c1 c2 c3 c4 c5 c6:Int):Bool:=decide (1≤c0∧c0≤8∧2≤c1∧c1≤64∧1≤c2∧c2≤c1-1∧(c3=1∨c3=2∨c3=4∨c3=8)∧1≤c4∧c4≤8∧1≤c5∧c5≤16∧1≤c6∧c6≤16)
theorem good_any (c0 c1 c2 c3 c4 c5 c6:Int) (w:World):Calls Tryz.prog 38 #[.agg #[.int .i64 c0,.int .i64 c1,.int .i64 c2,.int .i64 c3,.int .i64 c4,.int .i64 c5,.int .i64 c6]] w fun e w'=>e=.returned (.bool (Ys c0 c1 c2 c3 c4 c5 c6))∧w'=w.alloc (.cells #[.int .i64 c0,.int .i64 c1,.int .i64 c2,.int .i64 c3,.int .i64 c4,.int .i64 c5,.int .i64 c6] 23):=by
 by_cases h0:1≤c0∧c0≤8
 rotate_left
 ·have e:Ys c0 c1 c2 c3 c4 c5 c6=false:=by unfold Ys;simp only [decide_eq_false_iff_not];omega
  rw [e];exact good_0 c0 c1 c2 c3 c4 c5 c6 w h0
 by_cases h1:2≤c1∧c1≤64
 rotate_left
 ·have e:Ys c0 c1 c2 c3 c4 c5 c6=false:=by unfold Ys;simp only [decide_eq_false_iff_not];omega
  rw [e];exact good_1 c0 c1 c2 c3 c4 c5 c6 w h0.1 h0.2 h1
 by_cases h2:1≤c2∧c2≤c1- 1
 rotate_left
 ·have e:Ys c0 c1 c2 c3 c4 c5 c6=false:=by unfold Ys;simp only [decide_eq_false_iff_not];omega
  rw [e];exact good_2 c0 c1 c2 c3 c4 c5 c6 w h0.1 h0.2 h1.1 h1.2 h2
 by_cases h3:c3=1∨c3=2∨c3=4∨c3=8
 rotate_left
 ·have e:Ys c0 c1 c2 c3 c4 c5 c6=false:=by unfold Ys;simp only [decide_eq_false_iff_not];omega
  rw [e];exact good_3 c0 c1 c2 c3 c4 c5 c6 w h0.1 h0.2 h1.1 h1.2 h2.1 h2.2 h3
 by_cases h4:1≤c4∧c4≤8
 rotate_left
 ·have e:Ys c0 c1 c2 c3 c4 c5 c6=false:=by unfold Ys;simp only [decide_eq_false_iff_not];omega
  rw [e];exact good_4 c0 c1 c2 c3 c4 c5 c6 w h0.1 h0.2 h1.1 h1.2 h2.1 h2.2 h3 h4
 by_cases h5:1≤c5∧c5≤16
 rotate_left
 ·have e:Ys c0 c1 c2 c3 c4 c5 c6=false:=by unfold Ys;simp only [decide_eq_false_iff_not];omega
  rw [e];exact good_5 c0 c1 c2 c3 c4 c5 c6 w h0.1 h0.2 h1.1 h1.2 h2.1 h2.2 h3 h4.1 h4.2 h5
 by_cases h6:1≤c6∧c6≤16
 rotate_left
 ·have e:Ys c0 c1 c2 c3 c4 c5 c6=false:=by unfold Ys;simp only [decide_eq_false_iff_not];omega
  rw [e];exact good_6 c0 c1 c2 c3 c4 c5 c6 w h0.1 h0.2 h1.1 h1.2 h2.1 h2.2 h3 h4.1 h4.2 h5.1 h5.2 h6
 have e:Ys c0 c1 c2 c3 c4 c5 c6=true:=by unfold Ys;simp only [decide_eq_true_eq];omega
 rw [e];exact good_7 c0 c1 c2 c3 c4 c5 c6 w h0.1 h0.2 h1.1 h1.2 h2.1 h2.2 h3 h4.1 h4.2 h5.1 h5.2 h6.1 h6.2
end
section
set_option maxHeartbeats 2000000 in
theorem rgood_0 (c0 c1 c2 c3 c4 c5 c6:Int) (w:World) (h:¬(1≤c0∧c0≤8)):Calls Tryz.prog 17 #[.agg #[.int .i64 c0,.int .i64 c1,.int .i64 c2,.int .i64 c3,.int .i64 c4,.int .i64 c5,.int .i64 c6]] w fun e w'=>e=.returned (.bool false)∧w'=w.alloc (.cells #[.int .i64 c0,.int .i64 c1,.int .i64 c2,.int .i64 c3,.int .i64 c4,.int .i64 c5,.int .i64 c6] 23):=by
 by_cases h7:1≤c0
 ·have h8:decide (c0≤8)=false:=by simp;omega
  clear h
  exact Tz30
 ·have h8:decide (1≤c0)=false:=by simp;omega
  clear h h7
  exact Tz30
set_option maxHeartbeats 2000000 in
theorem rgood_1 (c0 c1 c2 c3 c4 c5 c6:Int) (w:World) (p0:1≤c0) (q0:c0≤8) (h:¬(2≤c1∧c1≤64)):Calls Tryz.prog 17 #[.agg #[.int .i64 c0,.int .i64 c1,.int .i64 c2,.int .i64 c3,.int .i64 c4,.int .i64 c5,.int .i64 c6]] w fun e w'=>e=.returned (.bool false)∧w'=w.alloc (.cells #[.int .i64 c0,.int .i64 c1,.int .i64 c2,.int .i64 c3,.int .i64 c4,.int .i64 c5,.int .i64 c6] 23):=by
 by_cases h7:2≤c1
 ·have h8:decide (c1≤64)=false:=by simp;omega
  clear h
  exact Tz30
 ·have h8:decide (2≤c1)=false:=by simp;omega
  clear h h7
  exact Tz30
set_option maxHeartbeats 2000000 in
theorem rgood_2 (c0 c1 c2 c3 c4 c5 c6:Int) (w:World) (p0:1≤c0) (q0:c0≤8) (p1:2≤c1) (q1:c1≤64) (h:¬(1≤c2∧c2≤c1-1)):Calls Tryz.prog 17 #[.agg #[.int .i64 c0,.int .i64 c1,.int .i64 c2,.int .i64 c3,.int .i64 c4,.int .i64 c5,.int .i64 c6]] w fun e w'=>e=.returned (.bool false)∧w'=w.alloc (.cells #[.int .i64 c0,.int .i64 c1,.int .i64 c2,.int .i64 c3,.int .i64 c4,.int .i64 c5,.int .i64 c6] 23):=by
 by_cases h7:1≤c2
 ·have h8:decide (c2<c1)=false:=by simp;omega
  clear h
  exact Tz30
 ·have h8:decide (1≤c2)=false:=by simp;omega
  clear h h7
  exact Tz30
set_option maxHeartbeats 2000000 in
theorem wdrgood_3 (c0 c1 c2 c3 c4 c5 c6:Int) (w:World) (p0:1≤c0) (q0:c0≤8) (p1:2≤c1) (q1:c1≤64) (p2:1≤c2) (q2:c2≤c1-1) (h:¬(c3=1∨c3=2∨c3=4∨c3=8)):Calls Tryz.prog 17 #[.agg #[.int .i64 c0,.int .i64 c1,.int .i64 c2,.int .i64 c3,.int .i64 c4,.int .i64 c5,.int .i64 c6]] w fun e w'=>e=.returned (.bool false)∧w'=w.alloc (.cells #[.int .i64 c0,.int .i64 c1,.int .i64 c2,.int .i64 c3,.int .i64 c4,.int .i64 c5,.int .i64 c6] 23):=by
 have q2':c2<c1:=by omega
 clear q2
 have e1:(c3==1)=false:=by simp;omega
 have e2:(c3==2)=false:=by simp;omega
 have e4:(c3==4)=false:=by simp;omega
 have e8:(c3==8)=false:=by simp;omega
 clear h
 exact Tz30
set_option maxHeartbeats 2000000 in
theorem rgood_4 (c0 c1 c2 c3 c4 c5 c6:Int) (w:World) (p0:1≤c0) (q0:c0≤8) (p1:2≤c1) (q1:c1≤64) (p2:1≤c2) (q2:c2≤c1-1) (s:c3=1∨c3=2∨c3=4∨c3=8) (h:¬(1≤c4∧c4≤8)):Calls Tryz.prog 17 #[.agg #[.int .i64 c0,.int .i64 c1,.int .i64 c2,.int .i64 c3,.int .i64 c4,.int .i64 c5,.int .i64 c6]] w fun e w'=>e=.returned (.bool false)∧w'=w.alloc (.cells #[.int .i64 c0,.int .i64 c1,.int .i64 c2,.int .i64 c3,.int .i64 c4,.int .i64 c5,.int .i64 c6] 23):=by
 have q2':c2<c1:=by omega
 clear q2
 obtain rfl|rfl|rfl|rfl:=s
 all_goals
  by_cases h7:1≤c4
  ·have h8:decide (c4≤8)=false:=by simp;omega
   clear h
   exact Tz30
  ·have h8:decide (1≤c4)=false:=by simp;omega
   clear h h7
   exact Tz30
set_option maxHeartbeats 2000000 in
theorem rgood_5 (c0 c1 c2 c3 c4 c5 c6:Int) (w:World) (p0:1≤c0) (q0:c0≤8) (p1:2≤c1) (q1:c1≤64) (p2:1≤c2) (q2:c2≤c1-1) (s:c3=1∨c3=2∨c3=4∨c3=8) (p4:1≤c4) (q4:c4≤8) (h:¬(1≤c5∧c5≤16)):Calls Tryz.prog 17 #[.agg #[.int .i64 c0,.int .i64 c1,.int .i64 c2,.int .i64 c3,.int .i64 c4,.int .i64 c5,.int .i64 c6]] w fun e w'=>e=.returned (.bool false)∧w'=w.alloc (.cells #[.int .i64 c0,.int .i64 c1,.int .i64 c2,.int .i64 c3,.int .i64 c4,.int .i64 c5,.int .i64 c6] 23):=by
 have q2':c2<c1:=by omega
 clear q2
 obtain rfl|rfl|rfl|rfl:=s
 all_goals
  by_cases h7:1≤c5
  ·have h8:decide (c5≤16)=false:=by simp;omega
   clear h
   exact Tz30
  ·have h8:decide (1≤c5)=false:=by simp;omega
   clear h h7
   exact Tz30
set_option maxHeartbeats 2000000 in
theorem wdrgood_6 (c0 c1 c2 c3 c4 c5 c6:Int) (w:World) (p0:1≤c0) (q0:c0≤8) (p1:2≤c1) (q1:c1≤64) (p2:1≤c2) (q2:c2≤c1-1) (s:c3=1∨c3=2∨c3=4∨c3=8) (p4:1≤c4) (q4:c4≤8) (p5:1≤c5) (q5:c5≤16) (h:¬(1≤c6∧c6≤16)):Calls Tryz.prog 17 #[.agg #[.int .i64 c0,.int .i64 c1,.int .i64 c2,.int .i64 c3,.int .i64 c4,.int .i64 c5,.int .i64 c6]] w fun e w'=>e=.returned (.bool false)∧w'=w.alloc (.cells #[.int .i64 c0,.int .i64 c1,.int .i64 c2,.int .i64 c3,.int .i64 c4,.int .i64 c5,.int .i64 c6] 23):=by
 have q2':c2<c1:=by omega
 clear q2
 obtain rfl|rfl|rfl|rfl:=s
 all_goals
  by_cases h7:1≤c6
  ·have h8:decide (c6≤16)=false:=by simp;omega
   clear h
   exact Tz30
  ·have h8:decide (1≤c6)=false:=by simp;omega
   clear h h7
   exact Tz30
set_option maxHeartbeats 2000000 in
theorem wdrgood_7 (c0 c1 c2 c3 c4 c5 c6:Int) (w:World) (p0:1≤c0) (q0:c0≤8) (p1:2≤c1) (q1:c1≤64) (p2:1≤c2) (q2:c2≤c1-1) (s:c3=1∨c3=2∨c3=4∨c3=8) (p4:1≤c4) (q4:c4≤8) (p5:1≤c5) (q5:c5≤16) (p6:1≤c6) (q6:c6≤16):Calls Tryz.prog 17 #[.agg #[.int .i64 c0,.int .i64 c1,.int .i64 c2,.int .i64 c3,.int .i64 c4,.int .i64 c5,.int .i64 c6]] w fun e w'=>e=.returned (.bool true)∧w'=w.alloc (.cells #[.int .i64 c0,.int .i64 c1,.int .i64 c2,.int .i64 c3,.int .i64 c4,.int .i64 c5,.int .i64 c6] 23):=by
 have q2':c2<c1:=by omega
 clear q2
 obtain rfl|rfl|rfl|rfl:=s
 all_goals
  exact Tz30
set_option maxHeartbeats 2000000 in
theorem Qf3 (c0 c1 c2 c3 c4 c5 c6:Int) (w:World):Calls Tryz.prog 17 #[.agg #[.int .i64 c0,.int .i64 c1,.int .i64 c2,.int .i64 c3,.int .i64 c4,.int .i64 c5,.int .i64 c6]] w fun e w'=>e=.returned (.bool (Ys c0 c1 c2 c3 c4 c5 c6))∧w'=w.alloc (.cells #[.int .i64 c0,.int .i64 c1,.int .i64 c2,.int .i64 c3,.int .i64 c4,.int .i64 c5,.int .i64 c6] 23):=by
 by_cases h0:1≤c0∧c0≤8
 rotate_left
 ·have e:Ys c0 c1 c2 c3 c4 c5 c6=false:=by unfold Ys;simp only [decide_eq_false_iff_not];omega
  rw [e];exact rgood_0 c0 c1 c2 c3 c4 c5 c6 w h0
 by_cases h1:2≤c1∧c1≤64
 rotate_left
 ·have e:Ys c0 c1 c2 c3 c4 c5 c6=false:=by unfold Ys;simp only [decide_eq_false_iff_not];omega
  rw [e];exact rgood_1 c0 c1 c2 c3 c4 c5 c6 w h0.1 h0.2 h1
 by_cases h2:1≤c2∧c2≤c1- 1
 rotate_left
 ·have e:Ys c0 c1 c2 c3 c4 c5 c6=false:=by unfold Ys;simp only [decide_eq_false_iff_not];omega
  rw [e];exact rgood_2 c0 c1 c2 c3 c4 c5 c6 w h0.1 h0.2 h1.1 h1.2 h2
 by_cases h3:c3=1∨c3=2∨c3=4∨c3=8
 rotate_left
 ·have e:Ys c0 c1 c2 c3 c4 c5 c6=false:=by unfold Ys;simp only [decide_eq_false_iff_not];omega
  rw [e];exact wdrgood_3 c0 c1 c2 c3 c4 c5 c6 w h0.1 h0.2 h1.1 h1.2 h2.1 h2.2 h3
 by_cases h4:1≤c4∧c4≤8
 rotate_left
 ·have e:Ys c0 c1 c2 c3 c4 c5 c6=false:=by unfold Ys;simp only [decide_eq_false_iff_not];omega
  rw [e];exact rgood_4 c0 c1 c2 c3 c4 c5 c6 w h0.1 h0.2 h1.1 h1.2 h2.1 h2.2 h3 h4
 by_cases h5:1≤c5∧c5≤16
 rotate_left
 ·have e:Ys c0 c1 c2 c3 c4 c5 c6=false:=by unfold Ys;simp only [decide_eq_false_iff_not];omega
  rw [e];exact rgood_5 c0 c1 c2 c3 c4 c5 c6 w h0.1 h0.2 h1.1 h1.2 h2.1 h2.2 h3 h4.1 h4.2 h5
 by_cases h6:1≤c6∧c6≤16
 rotate_left
 ·have e:Ys c0 c1 c2 c3 c4 c5 c6=false:=by unfold Ys;simp only [decide_eq_false_iff_not];omega
  rw [e];exact wdrgood_6 c0 c1 c2 c3 c4 c5 c6 w h0.1 h0.2 h1.1 h1.2 h2.1 h2.2 h3 h4.1 h4.2 h5.1 h5.2 h6
 have e:Ys c0 c1 c2 c3 c4 c5 c6=true:=by unfold Ys;simp only [decide_eq_true_eq];omega
 rw [e];exact wdrgood_7 c0 c1 c2 c3 c4 c5 c6 w h0.1 h0.2 h1.1 h1.2 h2.1 h2.2 h3 h4.1 h4.2 h5.1 h5.2 h6.1 h6.2
end
section
set_option maxHeartbeats 1000000
attribute [local go_sem ↓] QA QQ QH Q8 QS QC Za QN Zs Zh Qm Ql heap_alloc Qo heap_setCell Qb ZF Z4 Z5 Z3 Zc ZB Zk ZI Zv ZM ZK ZN ZL
attribute [local go_sem] Qc Qa Qd Qj Qf Qe Qh Qi Qw ZE QZ Zq QO QG Q6 Q0 Q5 Zi Q9 QM QB QI Zj Q7 Qz QP Qt Qk Qs Qr Qq Qp Qg Zb Ze lit8 QF ZG Zr Zt ZC Zd Zy ZH Zz Qv ZA Zl Zm QE QD QR ZO
attribute [local simp ↓] Qm Ql heap_alloc Qo heap_setCell Qb
attribute [local simp] Qc Qa Qd Qj Qf Qe Qh Qi Qw QB Qk Qs Qr Qq Qp Qg QF Qv QE QD QR QI
attribute [local go_sem ↓] XP XQ XO XN XS XR XM XZ
attribute [local go_sem] Xi XV Xh ZR ZT QL Xp ZZ X3 Zw QW QV QU QY QX QT QK QJ Zg Zf Xm ZW
attribute [local simp] QL Zf QW QV QU QY QX QT QK QJ Zg
attribute [local go_sem ↓] Xo ZV Xn ZU Z0
attribute [local go_sem] Xk Xj ZY Xl Qx Qy Z6
attribute [local simp] Z0 Qx Qy QI Zw
attribute [local go_sem ↓] Xg Yh Yi Y8
attribute [local simp] Xg
theorem Qei (z:Lay) (c:Cg):(z.enc c).toArray[0]? =some (.int .i64 c.co)∧(z.enc c).toArray[1]? =some (.int .i64 c.li)∧(z.enc c).toArray[3]? =some (.int .i64 c.se)∧(z.enc c).toArray[4]? =some (.int .i64 c.wa):=⟨rfl,rfl,rfl,rfl⟩
theorem enc_fresh (z:Lay) (c:Cg) (po en:Nat):((z.enc c).toArray.setIfInBounds 8 (.slice (some ⟨po,0,none⟩) c.co c.co)).setIfInBounds 9 (.slice (some ⟨en,0,none⟩) c.li c.li)=(({z with po:=po,en:=en}:Lay).enc c).toArray:=rfl
theorem mem_all {z:Lay} {L:List (Po×Pt)} {k:Nat}:k∈z.all L↔(k=z.sy∨k=z.q∨k=z.g∨k=z.b∨k=z.po∨k=z.en∨(k=z.be∧z.be≠z.q))∨k∈feet z.po L:=by
 unfold Lay.all Lay.base
 simp only [List.mem_append,List.mem_cons,Vn,or_false,ZX]
 simp only [or_assoc]
theorem Qgk {W w w':World} {c:Cg} {z:Lay} {es:List Ent} {xs:List Int} {C:Array Value} (he:∀po en:Nat,(C.setIfInBounds 8 (.slice (some ⟨po,0,none⟩) c.co c.co)).setIfInBounds 9 (.slice (some ⟨en,0,none⟩) c.li c.li)=(({z with po:=po,en:=en}:Lay).enc c).toArray) (hW:Chg [] W w) (hs:w.heap[z.sy]? =some (.cells C 95 (0,0))) (hsW:W.heap.size≤z.sy) (h6:z.ks.length=6)
 (hm:Sys W w z.q z.be z.g z.b c.li c.vo c.qu es xs) (hd:([z.sy,z.q,z.g,z.b]++opt z.q z.be).Nodup) (hf:Fresh W w c z.sy C w'):
 ∃po en L,Msd W w' c {z with po:=po,en:=en} L (List.replicate c.li enE) es xs∧ports L=List.replicate c.co (pt0 c)∧Chg [z.sy] w w'∧∀k∈({z with po:=po,en:=en}:Lay).all L,k∈[z.sy,z.q,z.g,z.b]++opt z.q z.be∨w.heap.size≤k:=by
 obtain ⟨po,en,L,h1,h2,h3,h4,h5,hp,hn,hl,hc⟩:=hf
 have hq:=hm.2.1.oldq.lt
 have hbe:=hm.2.1.olde.lt
 have hg:=hm.2.2.1.oldg
 have hb:=hm.2.2.1.oldb
 have hsy:=ZS hs
 have hWp:=hW.size
 have hmem:∀k∈({z with po:=po,en:=en}:Lay).all L,k∈[z.sy,z.q,z.g,z.b]++opt z.q z.be∨w.heap.size≤k:=by
  intro k hk
  rw [mem_all] at hk
  simp only [List.mem_append,List.mem_cons,Vn,or_false,ZX]
  dsimp only at hk
  rcases hk with (h|h|h|h|h|h|h)|h
  ·simp [h]
  ·simp [h]
  ·simp [h]
  ·simp [h]
  ·exact .inr (by rw [h];exact hl po (by simp))
  ·exact .inr (by rw [h];exact hl en (by simp))
  ·exact .inl (.inr h)
  ·exact .inr (hl k (by simp [h]))
 have n1:=(List.nodup_append.1 hd).1
 simp only [List.nodup_cons,List.mem_cons,Vn,or_false,not_or] at n1
 have n2:z.be≠z.sy:=by
  intro e
  by_cases hbq:z.be=z.q
  ·exact n1.1.1 (by rw [←e,hbq])
  ·exact (List.nodup_append.1 hd).2.2 z.sy (by simp) z.sy (ZX.2 ⟨e.symm,hbq⟩) rfl
 have hcw:=hW.trans' hc (fun x hx=>.inr (by rw [Vs hx];exact hsW))
 have hold:∀k∈[z.sy,z.q,z.g,z.b]++opt z.q z.be,k<w.heap.size:=by
  intro k hk
  simp only [List.mem_append,List.mem_cons,Vn,or_false,ZX] at hk
  rcases hk with (h|h|h|h)|h
  ·omega
  ·omega
  ·omega
  ·omega
  ·omega
 refine ⟨po,en,L,⟨hcw,by rw [h1,he],h6,⟨hcw,hm.2.1.keep hc (by simp;exact fun e=>n1.1.1 e.symm) (by simpa using n2),hm.2.2.1.keep hc (by simp;exact fun e=>n1.1.2.1 e.symm) (by simp;exact fun e=>n1.1.2.2 e.symm),hm.2.2.2⟩,h2,h3,h4,by simp,h5,?_,?_⟩,hp,hc,hmem⟩
 ·have e1:({z with po:=po,en:=en}:Lay).all L=[z.sy,z.q,z.g,z.b]++([po,en]++(opt z.q z.be++feet po L)):=by
   unfold Lay.all Lay.base;simp
  have e2:([z.sy,z.q,z.g,z.b]++([po,en]++(opt z.q z.be++feet po L))).Perm (([z.sy,z.q,z.g,z.b]++opt z.q z.be)++(po::en::feet po L)):=by
   exact Tz130
  rw [e1,e2.nodup_iff,List.nodup_append]
  refine ⟨hd,hn,fun a ha b hb e=>?_⟩
  have:=hold a ha
  have:=hl b hb
  omega
 ·intro k hk
  rcases hmem k hk with h|h
  ·have hn2:=hm.2.2.2.2
   simp only [List.mem_append,List.mem_cons,Vn,or_false,ZX] at h
   rcases h with (h|h|h|h)|h
   ·omega
   ·omega
   ·omega
   ·omega
   ·omega
  ·omega
section
variable {W:World} {c:Cg} {z:Lay} {L:List (Po×Pt)} {en:List En} {es:List Ent} {xs:List Int}
theorem zfail_ok (w:World) (h:Msd W w c z L en es xs) (hc:c.Ok):Calls Tryz.prog 22 #[.pointer (some ⟨z.sy,0,none⟩)] w fun e w'=>e=.returned (.tuple #[])∧∃z' L',MTo W w c z L z' L' (List.replicate c.li enE) [] (XE (over xs es) c.vo) w'∧z'.sy=z.sy∧ports L'=List.replicate c.co (pt0 c):=by
 have rS:=h.sys
 have HH:=Vh h
 have HG:=Vh (sys_fail h.mem)
 have HC:=Vh hc
 clear h hc
 go_enter Tryz.func22,Tryz.ntmps22
 try dsimp only [List.append]
 go_wp2_with fail
 refine HG.out.mono ?_
 rintro e w2 ⟨rfl,be',hs2,hc2,hb2⟩
 have HM2:=Vh (HH.out.memory hs2 hc2 hb2)
 clear hs2 hc2 hb2 rS HG
 have n6:=HM2.out.1.nodupB
 have hf:=Qgv W w2 c HC.out z.sy ((({z with be:=be'}:Lay)).enc c).toArray HM2.out.1.chg (HH.out.new _ (Lay.inB (Lay.beB (by simp)))) HM2.out.1.sys (Qei _ c).1 (Qei _ c).2.1 (Qei _ c).2.2.1 (Qei _ c).2.2.2 _ _ (Yh _ c) (Yi _ c)
 have HF:=Vh hf
 have HN:=Vh n6
 clear hf n6
 go_wp2_with fail
 refine HF.out.mono ?_
 rintro e w3 ⟨rfl,hfr⟩
 have hnd:([z.sy,z.q,z.g,z.b]++opt z.q be').Nodup:=by
  have h1:=HN.out
  unfold Lay.base at h1
  refine h1.sublist ?_
  refine List.Sublist.append ?_ (List.Sublist.refl _)
  exact (List.Sublist.refl [z.sy,z.q,z.g,z.b]).trans (List.sublist_append_left [z.sy,z.q,z.g,z.b] [z.po,z.en])
 obtain ⟨po,en',L',hm3,hp3,hc3,hk3⟩:=Qgk (z:={z with be:=be'}) (fun po en=>enc_fresh {z with be:=be'} c po en) HM2.out.1.chg HM2.out.1.sys (HH.out.new _ (Lay.inB (Lay.beB (by simp)))) HM2.out.1.six HM2.out.1.mem hnd hfr
 have HR:=Vh (show MTo W w2 c {z with be:=be'} L {z with be:=be',po:=po,en:=en'} L' (List.replicate c.li enE) [] (XE (over xs es) c.vo) w3 from ⟨hm3,hc3.mono (fun x hx=>.inl (by rw [Vs hx];exact Lay.inB (Lay.beB (by simp)))),fun k hk=>by
  rcases hk3 k hk with h1|h1
  ·refine .inl (mem_all.2 (.inl ?_))
   simp only [List.mem_append,List.mem_cons,Vn,or_false,ZX] at h1
   dsimp only at h1 ⊢
   rcases h1 with (h|h|h|h)|h<;>simp [h]
  ·exact .inr h1⟩)
 have HP3:=Vh hp3
 clear hfr hm3 hp3 hc3 hk3 hnd
 go_wp2_with fail
 go_end0
 exact ⟨rfl,_,L',HM2.out.trans HR.out,rfl,HP3.out⟩
end
end
section
set_option maxHeartbeats 1000000
attribute [local go_sem ↓] QA QQ QH Q8 QS QC Za QN Zs Zh Qm Ql heap_alloc Qo heap_setCell Qb ZF Z4 Z5 Z3 Zc ZB Zk ZI Zv ZM ZK ZN ZL
attribute [local go_sem] Qc Qa Qd Qj Qf Qe Qh Qi Qw ZE QZ Zq QO QG Q6 Q0 Q5 Zi Q9 QM QB QI Zj Q7 Qz QP Qt Qk Qs Qr Qq Qp Qg Zb Ze lit8 QF ZG Zr Zt ZC Zd Zy ZH Zz Qv ZA Zl Zm QE QD QR ZO
attribute [local simp ↓] Qm Ql heap_alloc Qo heap_setCell Qb
attribute [local simp] Qc Qa Qd Qj Qf Qe Qh Qi Qw QB Qk Qs Qr Qq Qp Qg QF Qv QE QD QR QI
attribute [local go_sem ↓] XP XQ XO XN XS XR XM XZ
attribute [local go_sem] Xi XV Xh ZR ZT QL Xp ZZ X3 Zw QW QV QU QY QX QT QK QJ Zg Zf Xm ZW
attribute [local simp] QL Zf QW QV QU QY QX QT QK QJ Zg
attribute [local go_sem ↓] Xo ZV Xn ZU Z0
attribute [local go_sem] Xk Xj ZY Xl Qx Qy Z6
attribute [local simp] Z0 Qx Qy QI Zw
attribute [local go_sem ↓] Xg Yh Yi Y8
attribute [local simp] Xg
def Cg.cells (c:Cg):Array Value:=#[.int .i64 c.co,.int .i64 c.li,.int .i64 c.vo,.int .i64 c.se,.int .i64 c.wa,.int .i64 c.qu,.int .i64 c.st]
def MadeSys (W w:World) (c:Cg) (xs:List Int):Ending→World→Prop:=fun e w'=>∃z L,e=.returned (.tuple #[.pointer (some ⟨z.sy,0,none⟩),.int .i64 0])∧Msd W w' c z L (List.replicate c.li enE) [] xs∧ports L=List.replicate c.co (pt0 c)∧Chg [] w w'∧∀k∈z.all L,w.heap.size≤k
theorem good_ok (c:Cg) (hc:c.Ok):Ys c.co c.li c.vo c.se c.wa c.qu c.st=true:=by
 obtain ⟨h1,h2,h3,h4,h5,h6,h7,h8,h9,h10,h11⟩:=hc
 unfold YQ at h7
 unfold Ys
 apply decide_eq_true
 omega
theorem zgood_at (c:Cg) (hc:c.Ok) (w:World):Calls Tryz.prog 38 #[.agg c.cells] w fun e w'=>e=.returned (.bool true)∧Chg [] w w':=
 (good_any c.co c.li c.vo c.se c.wa c.qu c.st w).mono fun e w' ⟨he,hw⟩=>⟨by rw [he,good_ok c hc],by subst hw;exact (Chg.refl [] w).alloc _⟩
theorem Qa5 (c:Cg):c.cells.size=7:=rfl
theorem Qem (c:Cg):Qa1 c.cells:=Qt _ rfl
theorem cg_li (c:Cg):c.cells[1]? =some (.int .i64 c.li):=rfl
theorem cg_vo (c:Cg):c.cells[2]? =some (.int .i64 c.vo):=rfl
theorem cg_qu (c:Cg):c.cells[5]? =some (.int .i64 c.qu):=rfl
def sysZ (c:Cg) (q:Option Nat):Array Value:=(c.enc++([.pointer (q.map fun k=>⟨k,0,none⟩),.slice none 0 0,.slice none 0 0]:List Value)++List.replicate 6 (Value.int .u64 0)).toArray
theorem fold_cg0 (c:Cg):Array.foldl (fun cs y=>cs.setIfInBounds (0+y.snd) y.fst) (#[.int .i64 0,.int .i64 0,.int .i64 0,.int .i64 0,.int .i64 0,.int .i64 0,.int .i64 0,.pointer none,.slice none 0 0,.slice none 0 0,.int .u64 0,.int .u64 0,.int .u64 0,.int .u64 0,.int .u64 0,.int .u64 0]:Array Value) c.cells.zipIdx 0 7=sysZ c none:=by
 rw [J1 _ _ 0 7 rfl (by simp)]
 simp [Z9,sysZ,Cg.cells,Cg.enc]
theorem fold_cg (c:Cg):Array.foldl (fun cs y=>cs.setIfInBounds y.snd y.fst) (#[.int .i64 0,.int .i64 0,.int .i64 0,.int .i64 0,.int .i64 0,.int .i64 0,.int .i64 0,.pointer none,.slice none 0 0,.slice none 0 0,.int .u64 0,.int .u64 0,.int .u64 0,.int .u64 0,.int .u64 0,.int .u64 0]:Array Value) c.cells.zipIdx 0 7=sysZ c none:=by
 have:=fold_cg0 c
 simp only [Nat.zero_add] at this
 exact this
theorem sysZ_put (c:Cg) (q:Nat):(sysZ c none).setIfInBounds 7 (.pointer (some ⟨q,0,none⟩))=sysZ c (some q):=rfl
theorem sysZ_size (c:Cg) (q:Option Nat):(sysZ c q).size=16:=rfl
theorem sysZ_enc (c:Cg) (q:Nat):∀z:Lay,z.q=q→z.ks=List.replicate 6 0→((sysZ c (some q)).setIfInBounds 8 (.slice (some ⟨z.po,0,none⟩) c.co c.co)).setIfInBounds 9 (.slice (some ⟨z.en,0,none⟩) c.li c.li)=(z.enc c).toArray:=by
 rintro z rfl h
 unfold Lay.enc sysZ
 rw [h]
 rfl
attribute [local go_sem] fold_cg fold_cg0 sysZ_put sysZ_size
theorem Qdo:Wide Tryz.prog 23 7:=⟨⟨_,Tryz.underlying23,by rfl⟩,by kernel_rfl⟩
theorem Qea (x:Value):Instr.loadAt 23 x=Qc8 23 7 x:=rfl
attribute [local go_sem ↓] Qea cg_li cg_vo cg_qu
theorem Qb2 (c:Cg) (t:TypeId) (f:Nat×Nat):Xq (some (.cells c.cells t f)) 0 7=c.cells:=Qf _ _ _ _ rfl
attribute [local go_sem] Qdo Qa5 Qem Qb2
theorem znew_none (W w:World) (c:Cg) (hc:c.Ok) (hW:Chg [] W w) (A:Option Addr) (nc:Nat):Calls Tryz.prog 12 #[.agg c.cells,.slice A 0 nc] w (MadeSys W w c (List.replicate (c.li*8) 0)):=by
 have HC:=Vh hc
 have HW:=Vh hW
 clear hc hW
 go_enter Tryz.func12,Tryz.ntmps12
 try dsimp only [List.append]
 go_wp2_with fail
 have r1:(w.alloc (.cells c.cells 23)).heap[w.heap.size]? =some (.cells c.cells 23 (0,0)):=by simp
 have C1:=Vh ((Chg.refl [] w).alloc (.cells c.cells 23))
 refine (zgood_at c HC.out _).mono ?_
 rintro e w2 ⟨rfl,c2⟩
 replace r1:=c2.keep r1 Vn
 have o1:=old r1
 have C2:=Vh (C1.out.trans c2)
 clear C1 c2
 generalize w.heap.size=b1 at r1 o1 ⊢
 go_wp2_with fail
 refine (new_ok c.li c.vo w2 HC.out.li2 HC.out.li64 HC.out.vo1 HC.out.vol).mono ?_
 rintro e w3 ⟨rfl,c3,hdev,hsz⟩
 replace r1:=c3.keep r1 Vn
 replace o1:=old r1
 have C3:=Vh (C2.out.trans c3)
 have HD:=Vh hdev
 have HL:=Vh C2.out.size
 have HGB:=Vh (show w.heap.size≤w2.heap.size+1∧w.heap.size≤w2.heap.size from ⟨by have:=C2.out.size;omega,C2.out.size⟩)
 generalize w2.heap.size+1=g at HD HGB ⊢
 generalize w2.heap.size=b at HD HL HGB
 clear c3 hsz
 have HG:=Vh (show w.heap.size≤g∧w.heap.size≤b from HGB.out)
 go_wp2_with fail
 refine (wsys_new W c.li c.vo c.qu w3 g b _ (HW.out.trans C3.out) HD.out (Nat.le_trans HW.out.size HG.out.1) (Nat.le_trans HW.out.size HG.out.2) HC.out.qu1 HC.out.qu16).mono ?_
 rintro e w4 ⟨q,rfl,hsys,c4,hq⟩
 replace r1:=c4.keep r1 Vn
 replace o1:=old r1
 have HS4:=Vh hsys
 have HQ:=Vh hq
 have C4:=Vh (C3.out.trans c4)
 clear hsys hq c4
 go_upto_region 9 with fail
 have rS:(w4.alloc (.cells (sysZ c (some q)) 95)).heap[w4.heap.size]? =some (.cells (sysZ c (some q)) 95 (0,0)):=Yr _ _
 have K5:=Vh ((Chg.refl [] w4).alloc (.cells (sysZ c (some q)) 95))
 have NS:=Vh (Nat.le_refl w4.heap.size)
 have NQ:=Vh (show q<w4.heap.size∧g<w4.heap.size∧b<w4.heap.size from ⟨HS4.out.2.1.oldq.lt,HS4.out.2.2.1.oldg,HS4.out.2.2.1.oldb⟩)
 have SY0:=Vh C4.out.size
 have HSZ:=Vh (show w4.heap.size≤(w4.alloc (.cells (sysZ c (some q)) 95)).heap.size by simp)
 generalize w4.heap.size=sy at rS NS NQ SY0 HSZ ⊢
 generalize w4.alloc (.cells (sysZ c (some q)) 95)=w5 at rS K5 HSZ ⊢
 have hf:=Qgv W w5 c HC.out sy (sysZ c (some q)) ((HW.out.trans C4.out).trans K5.out) (Nat.le_trans HW.out.size SY0.out) rS rfl rfl rfl rfl _ _ rfl rfl
 have HF:=Vh hf
 have HRS:=Vh rS
 clear hf rS r1 o1
 go_wp2_with fail
 refine HF.out.mono ?_
 rintro e w6 ⟨rfl,hfr⟩
 have hS5:=HS4.out.keep K5.out
 have hap:=HS4.out.2.2.2.1
 have hgb:g≠b:=by obtain ⟨_,_,_,_,_,_,_,h⟩:=HS4.out.2.2.1;exact h
 have hnd:([sy,q,g,b]++opt q q).Nodup:=by
  have h1:=NQ.out
  obtain ⟨a1,a2,a3,a4⟩:=hap
  simp [opt]
  omega
 obtain ⟨po,en,L,hm,hp,hc6,hk6⟩:=Qgk (z:=⟨sy,q,q,g,b,0,0,List.replicate 6 0⟩) (fun po en=>sysZ_enc c q ⟨sy,q,q,g,b,po,en,List.replicate 6 0⟩ rfl rfl) ((HW.out.trans C4.out).trans K5.out) HRS.out (Nat.le_trans HW.out.size SY0.out) (by simp) hS5 hnd hfr
 have HFIN:=Vh (show MadeSys W w c (List.replicate (c.li*8) 0) (.returned (.tuple #[.pointer (some ⟨sy,0,none⟩),.int .i64 0])) w6 by
  refine ⟨⟨sy,q,q,g,b,po,en,List.replicate 6 0⟩,L,rfl,hm,hp,((C4.out.trans K5.out).mono (by simp)).trans' hc6 (fun x hx=>.inr (by rw [Vs hx];exact SY0.out)),?_⟩
  intro k hk
  have h1:=HQ.out
  have h2:=HG.out
  have h3:=C3.out.size
  have h4:=SY0.out
  have h5:=C4.out.size
  have h6:=K5.out.size
  rcases hk6 k hk with h|h
  ·simp [opt] at h
   omega
  ·have:=HSZ.out
   omega)
 clear hfr hm hp hc6 hk6 hnd hS5
 go_wp2_with fail
 go_ret2
 exact HFIN.out
end
section
set_option maxHeartbeats 1000000
attribute [local go_sem ↓] QA QQ QH Q8 QS QC Za QN Zs Zh Qm Ql heap_alloc Qo heap_setCell Qb ZF Z4 Z5 Z3 Zc ZB Zk ZI Zv ZM ZK ZN ZL
attribute [local go_sem] Qc Qa Qd Qj Qf Qe Qh Qi Qw ZE QZ Zq QO QG Q6 Q0 Q5 Zi Q9 QM QB QI Zj Q7 Qz QP Qt Qk Qs Qr Qq Qp Qg Zb Ze lit8 QF ZG Zr Zt ZC Zd Zy ZH Zz Qv ZA Zl Zm QE QD QR ZO
attribute [local simp ↓] Qm Ql heap_alloc Qo heap_setCell Qb
attribute [local simp] Qc Qa Qd Qj Qf Qe Qh Qi Qw QB Qk Qs Qr Qq Qp Qg QF Qv QE QD QR QI
attribute [local go_sem ↓] XP XQ XO XN XS XR XM XZ
attribute [local go_sem] Xi XV Xh ZR ZT QL Xp ZZ X3 Zw QW QV QU QY QX QT QK QJ Zg Zf Xm ZW
attribute [local simp] QL Zf QW QV QU QY QX QT QK QJ Zg
attribute [local go_sem ↓] Xo ZV Xn ZU Z0
attribute [local go_sem] Xk Xj ZY Xl Qx Qy Z6
attribute [local simp] Z0 Qx Qy QI Zw
def Mem (W w:World) (c:Cg) (sy:Nat) (F:List Nat) (ps:List Pt) (en:List En) (es:List Ent) (xs:List Int):Prop:=∃z L,z.sy=sy∧z.all L=F∧ports L=ps∧Msd W w c z L en es xs
def MemTo (W w:World) (c:Cg) (sy:Nat) (F:List Nat) (ps:List Pt) (en:List En) (es:List Ent) (xs:List Int) (w':World):Prop:=∃F',Mem W w' c sy F' ps en es xs∧Chg F w w'∧∀k∈F',k∈F∨w.heap.size≤k
theorem MemTo.of {W w w':World} {c:Cg} {z z':Lay} {L L':List (Po×Pt)} {en:List En} {es:List Ent} {xs:List Int} (h:MTo W w c z L z' L' en es xs w') (hs:z'.sy=z.sy) {ps:List Pt} (hp:ports L'=ps):MemTo W w c z.sy (z.all L) ps en es xs w':=
 ⟨z'.all L',⟨z',L',hs,rfl,hp,h.1⟩,h.2.1,h.2.2⟩
theorem MemTo.trans {W w w1 w2:World} {c:Cg} {sy:Nat} {F F1:List Nat} {ps ps2:List Pt} {en en2:List En} {es es2:List Ent} {xs xs2:List Int} (h1:Mem W w1 c sy F1 ps en es xs) (h2:Chg F w w1) (h3:∀k∈F1,k∈F∨w.heap.size≤k) (h:MemTo W w1 c sy F1 ps2 en2 es2 xs2 w2):MemTo W w c sy F ps2 en2 es2 xs2 w2:=by
 obtain ⟨F2,hm,hc,hk⟩:=h
 refine ⟨F2,hm,h2.trans' hc h3,fun k hk2=>?_⟩
 rcases hk k hk2 with h4|h4
 ·exact h3 k h4
 ·exact .inr (Nat.le_trans h2.size h4)
section
variable {W w w':World} {c:Cg} {sy:Nat} {F:List Nat} {ps:List Pt} {en:List En} {es:List Ent} {xs:List Int} (hm:Mem W w c sy F ps en es xs)
include hm
theorem Mem.keep (hc:Chg [] w w'):Mem W w' c sy F ps en es xs:=by
 obtain ⟨z,L,h1,h2,h3,h⟩:=hm
 exact ⟨z,L,h1,h2,h3,h.keep hc⟩
theorem Mem.keepL {l:List Nat} (hc:Chg l w w') (hl:∀k∈l,k∉F) (hw:∀k∈l,W.heap.size≤k):Mem W w' c sy F ps en es xs:=by
 obtain ⟨z,L,h1,rfl,h3,h⟩:=hm
 exact ⟨z,L,h1,rfl,h3,h.keepL hc hl hw⟩
theorem Mem.stay (hc:Chg [] w w'):MemTo W w c sy F ps en es xs w':=⟨F,hm.keep hc,hc.mono (by simp),fun k hk=>.inl hk⟩
theorem Mem.chg:Chg [] W w:=by obtain ⟨z,L,_,_,_,h⟩:=hm;exact h.chg
theorem Mem.old:∀k∈F,k<w.heap.size:=by obtain ⟨z,L,_,rfl,_,h⟩:=hm;exact h.old
theorem Mem.new:∀k∈F,W.heap.size≤k:=by obtain ⟨z,L,_,rfl,_,h⟩:=hm;exact h.new
theorem mload_ok (i:Nat) (li k:Int) (x:Pt) (hy:ps[i]? =some x) (hT:Tab W) (hl:inB li c.li=true) (hu:x.s.2≤1000000000) (hq:x.up.length<1000) (hma:∀m∈(loadF c.se c.wa x.s li k).2.2.2,mg m=true) (h1:(loadF c.se c.wa x.s li k).2.2.2.length≤1):
 Calls Tryz.prog 28 #[.pointer (some ⟨sy,0,none⟩),.int .i64 i,.int .i64 li,.int .i64 k] w fun e w'=>e=.returned (.tuple #[.int .u64 (loadF c.se c.wa x.s li k).2.1,.bool (loadF c.se c.wa x.s li k).2.2.1])∧MemTo W w c sy F (ps.set i {x with s:=(loadF c.se c.wa x.s li k).1,up:=x.up++(loadF c.se c.wa x.s li k).2.2.2}) en es xs w':=by
 obtain ⟨z,L,rfl,rfl,rfl,h⟩:=hm
 obtain ⟨p,hp⟩:=XC hy
 exact (zload_ok i li k p x w h hT hp hl hu hq hma h1).mono fun e w' ⟨he,p',M⟩=>⟨he,MemTo.of M rfl (ZQ ..)⟩
theorem Qgi (i:Nat) (li k v:Int) (x:Pt) (hy:ps[i]? =some x) (hT:Tab W) (hl:inB li c.li=true) (hu:x.s.2≤1000000000) (hq:x.up.length<1000) (hma:∀m∈(storeF c.se c.wa x.s li k v).2.2,mg m=true) (h1:(storeF c.se c.wa x.s li k v).2.2.length≤1):
 Calls Tryz.prog 34 #[.pointer (some ⟨sy,0,none⟩),.int .i64 i,.int .i64 li,.int .i64 k,.int .u64 v] w fun e w'=>e=.returned (.bool (storeF c.se c.wa x.s li k v).2.1)∧MemTo W w c sy F (ps.set i {x with s:=(storeF c.se c.wa x.s li k v).1,up:=x.up++(storeF c.se c.wa x.s li k v).2.2}) en es xs w':=by
 obtain ⟨z,L,rfl,rfl,rfl,h⟩:=hm
 obtain ⟨p,hp⟩:=XC hy
 exact (zstore_ok i li k v p x w h hT hp hl hu hq hma h1).mono fun e w' ⟨he,p',M⟩=>⟨he,MemTo.of M rfl (ZQ ..)⟩
theorem mevict_ok (i:Nat) (li:Int) (x:Pt) (hy:ps[i]? =some x) (hT:Tab W) (hl:inB li c.li=true) (hu:x.s.2≤1000000000) (hq:x.up.length<1000) (hma:∀m∈(evictF c.se c.wa x.s li).2.1,mg m=true) (h1:(evictF c.se c.wa x.s li).2.1.length≤1):
 Calls Tryz.prog 32 #[.pointer (some ⟨sy,0,none⟩),.int .i64 i,.int .i64 li] w fun e w'=>e=.returned (.int .i64 (evictF c.se c.wa x.s li).2.2)∧MemTo W w c sy F (ps.set i {x with s:=(evictF c.se c.wa x.s li).1,up:=x.up++(evictF c.se c.wa x.s li).2.1}) en es xs w':=by
 obtain ⟨z,L,rfl,rfl,rfl,h⟩:=hm
 obtain ⟨p,hp⟩:=XC hy
 exact (zevict_ok i li p x w h hT hp hl hu hq hma h1).mono fun e w' ⟨he,p',M⟩=>⟨he,MemTo.of M rfl (ZQ ..)⟩
theorem mreach_own (i:Nat) (li:Int) (x:Pt) (hy:ps[i]? =some x) (hl:inB li c.li=true) (ho:JN x.s.1 li=true):
 Calls Tryz.prog 49 #[.pointer (some ⟨sy,0,none⟩),.int .i64 i,.int .i64 li] w fun e w'=>e=.returned (.bool true)∧Chg [] w w':=by
 obtain ⟨z,L,rfl,rfl,rfl,h⟩:=hm
 obtain ⟨p,hp⟩:=XC hy
 exact zreach_own i li p x w h hp hl ho
theorem mreach_ok (i:Nat) (li:Int) (x:Pt) (hy:ps[i]? =some x) (hT:Tab W) (hl:inB li c.li=true) (ho:JN x.s.1 li=false) (hu:x.s.2≤1000000000) (hq:x.up.length<1000) (hma:∀m∈(reachF c.se c.wa x.s li).2,mg m=true) (h1:(reachF c.se c.wa x.s li).2.length≤1):
 Calls Tryz.prog 49 #[.pointer (some ⟨sy,0,none⟩),.int .i64 i,.int .i64 li] w fun e w'=>e=.returned (.bool false)∧MemTo W w c sy F (ps.set i {x with s:=(reachF c.se c.wa x.s li).1,up:=x.up++(reachF c.se c.wa x.s li).2}) en es xs w':=by
 obtain ⟨z,L,rfl,rfl,rfl,h⟩:=hm
 obtain ⟨p,hp⟩:=XC hy
 exact (zreach_ok i li p x w h hT hp hl ho hu hq hma h1).mono fun e w' ⟨he,p',M⟩=>⟨he,MemTo.of M rfl (ZQ ..)⟩
theorem mflush_4 (i:Nat) (li:Int) (x:Pt) (hy:ps[i]? =some x) (hT:Tab W) (hl:inB li c.li=true) (hq:x.up.length<1000) (hma:mg (ms4 4 li false false)=true):
 Calls Tryz.prog 30 #[.pointer (some ⟨sy,0,none⟩),.int .i64 i,.int .i64 li,.int .i64 4] w fun e w'=>e=.returned (.int .i64 0)∧MemTo W w c sy F (ps.set i {x with up:=x.up++[ms4 4 li false false]}) en es xs w':=by
 obtain ⟨z,L,rfl,rfl,rfl,h⟩:=hm
 obtain ⟨p,hp⟩:=XC hy
 exact (zflush_4 i li p x w h hT hp hl hq hma).mono fun e w' ⟨he,p',M⟩=>⟨he,MemTo.of M rfl (ZQ ..)⟩
theorem mflush_5 (i:Nat) (li:Int) (x:Pt) (hy:ps[i]? =some x) (hT:Tab W) (hl:inB li c.li=true) (hq:x.up.length<1000) (hma:mg (ms4 5 li false false)=true):
 Calls Tryz.prog 30 #[.pointer (some ⟨sy,0,none⟩),.int .i64 i,.int .i64 li,.int .i64 5] w fun e w'=>e=.returned (.int .i64 0)∧MemTo W w c sy F (ps.set i {x with up:=x.up++[ms4 5 li false false]}) en es xs w':=by
 obtain ⟨z,L,rfl,rfl,rfl,h⟩:=hm
 obtain ⟨p,hp⟩:=XC hy
 exact (zflush_5 i li p x w h hT hp hl hq hma).mono fun e w' ⟨he,p',M⟩=>⟨he,MemTo.of M rfl (ZQ ..)⟩
theorem mup_none (i:Nat) (x:Pt) (hy:ps[i]? =some x) (hx:x.up=[]):
 Calls Tryz.prog 35 #[.pointer (some ⟨sy,0,none⟩),.int .i64 i] w fun e w'=>e=.returned (.int .i64 14)∧Chg [] w w':=by
 obtain ⟨z,L,rfl,rfl,rfl,h⟩:=hm
 obtain ⟨p,hp⟩:=XC hy
 exact zup_none i p x w h hp hx
theorem mup_go (i k:Nat) (x:Pt) (hy:ps[i]? =some x) (m:Ms) (rest:List Ms) (e e':En) (l:List Int) (hl:l.length=8) (ds:List Sd) (v:Int) (hT:Tab W) (hx:x.up=m::rest) (hlu:x.up.length≤1000) (hk:m.li=(k:Int)) (he:en[k]? =some e) (hX:ln (over xs es) k=l)
 (hr:askE (Qgp e l hl) i m=((e',ds),v)) (hto:∀d∈ds,0≤d.to∧d.to<c.co∧mg d.m=true) (M:Nat) (hM:∀x∈ps,x.dn.length≤M) (hMn:M+ds.length≤1000):
 Calls Tryz.prog 35 #[.pointer (some ⟨sy,0,none⟩),.int .i64 i] w fun r w'=>(v≠0∧r=.returned (.int .i64 v)∧MemTo W w c sy F ps en es xs w')∨(v=0∧r=.returned (.int .i64 0)∧MemTo W w c sy F (XY (ps.set i {x with up:=rest}) ds) (en.set k e') es xs w'):=by
 obtain ⟨z,L,rfl,rfl,rfl,h⟩:=hm
 obtain ⟨p,hp⟩:=XC hy
 refine (zup_go i k p x m rest e e' l hl ds v w h hT hp hx hlu hk he hX hr hto M hM hMn).mono fun r w' hr2=>?_
 exact Tz90
theorem manswer_none (i:Nat) (x:Pt) (hy:ps[i]? =some x) (hx:x.an=[]):
 Calls Tryz.prog 37 #[.pointer (some ⟨sy,0,none⟩),.int .i64 i] w fun e w'=>e=.returned (.int .i64 14)∧MemTo W w c sy F (ps.set i {x with an:=[]}) en es xs w':=by
 obtain ⟨z,L,rfl,rfl,rfl,h⟩:=hm
 obtain ⟨p,hp⟩:=XC hy
 exact (zanswer_none i p x w h hp hx).mono fun e w' ⟨he,p',M⟩=>⟨he,MemTo.of M rfl (ZQ ..)⟩
theorem manswer_go (i k:Nat) (x:Pt) (hy:ps[i]? =some x) (m:Ms) (rest:List Ms) (e e':En) (ds:List Sd) (v:Int) (hT:Tab W) (hx:x.an=m::rest) (hlu:x.an.length≤1000) (hk:m.li=(k:Int)) (he:en[k]? =some e)
 (hr:ansE e i m=((e',ds),v)) (hto:∀d∈ds,0≤d.to∧d.to<c.co∧mg d.m=true) (M:Nat) (hM:∀x∈ps,x.dn.length≤M) (hMn:M+ds.length≤1000):
 Calls Tryz.prog 37 #[.pointer (some ⟨sy,0,none⟩),.int .i64 i] w fun r w'=>(v≠0∧r=.returned (.int .i64 v)∧MemTo W w c sy F (ps.set i {x with an:=rest}) en es xs w')∨(v=0∧r=.returned (.int .i64 0)∧MemTo W w c sy F (XY (ps.set i {x with an:=rest}) ds) (en.set k e') es xs w'):=by
 obtain ⟨z,L,rfl,rfl,rfl,h⟩:=hm
 obtain ⟨p,hp⟩:=XC hy
 refine (zanswer_go i k p x m rest e e' ds v w h hT hp hx hlu hk he hr hto M hM hMn).mono fun r w' hr2=>?_
 rcases hr2 with ⟨h1,h2,p',M1⟩|⟨h1,h2,ks',L',M1,hp2⟩
 ·exact .inl ⟨h1,h2,MemTo.of M1 rfl (ZQ ..)⟩
 ·exact .inr ⟨h1,h2,MemTo.of M1 rfl hp2⟩
theorem mhear_none (i:Nat) (x:Pt) (hy:ps[i]? =some x) (hx:x.dn=[]):
 Calls Tryz.prog 36 #[.pointer (some ⟨sy,0,none⟩),.int .i64 i] w fun e w'=>e=.returned (.tuple #[.agg (msc msZ),.int .i64 14])∧MemTo W w c sy F (ps.set i {x with dn:=[]}) en es xs w':=by
 obtain ⟨z,L,rfl,rfl,rfl,h⟩:=hm
 obtain ⟨p,hp⟩:=XC hy
 exact (zhear_none i p x w h hp hx).mono fun e w' ⟨he,p',M⟩=>⟨he,MemTo.of M rfl (ZQ ..)⟩
theorem mhear_go (i:Nat) (x:Pt) (hy:ps[i]? =some x) (m:Ms) (rest:List Ms) (s':Sta) (av:List Ms) (v:Int) (hT:Tabs W) (hx:x.dn=m::rest) (hlu:x.dn.length≤1000) (hu:x.s.2≤1000000000) (hr:hearF c.se c.wa x.s m=(s',(av,v))) (ha1:av.length≤1) (hla:x.an.length<1000) (hma:∀a∈av,mg a=true):
 Calls Tryz.prog 36 #[.pointer (some ⟨sy,0,none⟩),.int .i64 i] w fun e w'=>(v≠0∧e=.returned (.tuple #[.agg (msc msZ),.int .i64 v])∧MemTo W w c sy F (ps.set i {x with s:=s',dn:=rest}) en es xs w')∨(v=0∧e=.returned (.tuple #[.agg (msc m),.int .i64 0])∧MemTo W w c sy F (ps.set i {x with s:=s',an:=x.an++av,dn:=rest}) en es xs w'):=by
 obtain ⟨z,L,rfl,rfl,rfl,h⟩:=hm
 obtain ⟨p,hp⟩:=XC hy
 refine (zhear_go i p x m rest s' av v w h hT hp hx hlu hu hr ha1 hla hma).mono fun r w' hr2=>?_
 rcases hr2 with ⟨h1,h2,p',M1⟩|⟨h1,h2,ks',p',M1⟩
 ·exact .inl ⟨h1,h2,MemTo.of M1 rfl (ZQ ..)⟩
 ·exact .inr ⟨h1,h2,MemTo.of M1 rfl (ZQ ..)⟩
theorem mdrop_kept (i:Nat) (e:En) (he:en[i]? =some e) (hd:Jt e=true):
 Calls Tryz.prog 31 #[.pointer (some ⟨sy,0,none⟩),.int .i64 i] w fun r w'=>r=.returned (.int .i64 16)∧Chg [] w w':=by
 obtain ⟨z,L,rfl,rfl,rfl,h⟩:=hm
 exact zdrop_kept i e w h he hd
theorem mdrop_go (i:Nat) (e:En) (hT:Tab W) (he:en[i]? =some e) (hd:Jt e=false) (v:Int) (hv:YX c es i e=v) (es':List Ent) (hs:Ya c es i e=es') (M:Nat) (hM:∀x∈ps,x.dn.length≤M) (hMn:M≤1000):
 Calls Tryz.prog 31 #[.pointer (some ⟨sy,0,none⟩),.int .i64 i] w fun r w'=>(v≠0∧r=.returned (.int .i64 v)∧MemTo W w c sy F ps en es' xs w')∨(v=0∧r=.returned (.int .i64 0)∧MemTo W w c sy F ps (en.set i enE) es' xs w'):=by
 obtain ⟨z,L,rfl,rfl,rfl,h⟩:=hm
 refine (zdrop_go i e w h hT he hd v hv es' hs M hM hMn).mono fun r w' hr2=>?_
 exact Tz90
theorem mdrain_ok (k:Int) (hk:inB k c.li=true):
 Calls Tryz.prog 51 #[.pointer (some ⟨sy,0,none⟩),.int .i64 k] w fun e w'=>e=.returned (.int .i64 (Y1 es k))∧MemTo W w c sy F ps en (Jl es k) (Y7 xs es k) w':=by
 obtain ⟨z,L,rfl,rfl,rfl,h⟩:=hm
 exact (zdrain_ok k w h hk).mono fun e w' ⟨he,be',ks',M⟩=>⟨he,MemTo.of M rfl rfl⟩
theorem mfail_ok (hc:c.Ok):
 Calls Tryz.prog 22 #[.pointer (some ⟨sy,0,none⟩)] w fun e w'=>e=.returned (.tuple #[])∧MemTo W w c sy F (List.replicate c.co (pt0 c)) (List.replicate c.li enE) [] (XE (over xs es) c.vo) w':=by
 obtain ⟨z,L,rfl,rfl,rfl,h⟩:=hm
 exact (zfail_ok w h hc).mono fun e w' ⟨he,z',L',M,hs,hp2⟩=>⟨he,MemTo.of M hs hp2⟩
theorem mentry_ok (i:Nat) (e:En) (he:en[i]? =some e):
 Calls Tryz.prog 20 #[.pointer (some ⟨sy,0,none⟩),.int .i64 i] w fun r w'=>r=.returned (.agg (ec e))∧Chg [] w w':=by
 obtain ⟨z,L,rfl,rfl,rfl,h⟩:=hm
 exact zentry_ok i e w h he
theorem mentry_off (k:Int) (hk:inB k c.li=false):
 Calls Tryz.prog 20 #[.pointer (some ⟨sy,0,none⟩),.int .i64 k] w fun r w'=>r=.returned (.agg (ec enE))∧Chg [] w w':=by
 obtain ⟨z,L,rfl,rfl,rfl,h⟩:=hm
 exact zentry_off k w h hk
theorem mslots_ok (i:Nat) (x:Pt) (hy:ps[i]? =some x):Calls Tryz.prog 19 #[.pointer (some ⟨sy,0,none⟩),.int .i64 i] w (Qco w (live x.s.1)):=by
 obtain ⟨z,L,rfl,rfl,rfl,h⟩:=hm
 obtain ⟨p,hp⟩:=XC hy
 exact zslots_ok i p x w h hp
theorem mqueues_ok (i:Nat) (x:Pt) (hy:ps[i]? =some x) (h1:x.up.length≤1000) (h2:x.an.length≤1000) (h3:x.dn.length≤1000):Calls Tryz.prog 24 #[.pointer (some ⟨sy,0,none⟩),.int .i64 i] w (Qus w x):=by
 obtain ⟨z,L,rfl,rfl,rfl,h⟩:=hm
 obtain ⟨p,hp⟩:=XC hy
 exact zqueues_ok i p x w h hp h1 h2 h3
theorem mwaiting_ok:Calls Tryz.prog 23 #[.pointer (some ⟨sy,0,none⟩)] w (WTold w (poss es)):=by
 obtain ⟨z,L,rfl,rfl,rfl,h⟩:=hm
 exact zwaiting_ok w h
theorem mmemory_ok:Calls Tryz.prog 18 #[.pointer (some ⟨sy,0,none⟩)] w (Qf1 w c.li (over xs es)):=by
 obtain ⟨z,L,rfl,rfl,rfl,h⟩:=hm
 exact zmemory_ok w h
theorem mload_no (k li:Int) (wd:Int) (hk:inB k c.co=false):Calls Tryz.prog 28 #[.pointer (some ⟨sy,0,none⟩),.int .i64 k,.int .i64 li,.int .i64 wd] w fun e w'=>e=.returned (.tuple #[.int .u64 0,.bool false])∧w=w':=by
 obtain ⟨z,L,rfl,rfl,rfl,h⟩:=hm
 exact zload_no k li wd w h hk
theorem mload_off (i:Nat) (li:Int) (wd:Int) (hi:i<c.co) (hl:inB li c.li=false):Calls Tryz.prog 28 #[.pointer (some ⟨sy,0,none⟩),.int .i64 i,.int .i64 li,.int .i64 wd] w fun e w'=>e=.returned (.tuple #[.int .u64 0,.bool false])∧w=w':=by
 obtain ⟨z,L,rfl,rfl,rfl,h⟩:=hm
 exact zload_off i li wd w h hi hl
theorem mstore_no (k li:Int) (wd v:Int) (hk:inB k c.co=false):Calls Tryz.prog 34 #[.pointer (some ⟨sy,0,none⟩),.int .i64 k,.int .i64 li,.int .i64 wd,.int .u64 v] w fun e w'=>e=.returned (.bool false)∧w=w':=by
 obtain ⟨z,L,rfl,rfl,rfl,h⟩:=hm
 exact zstore_no k li wd v w h hk
theorem mstore_off (i:Nat) (li:Int) (wd v:Int) (hi:i<c.co) (hl:inB li c.li=false):Calls Tryz.prog 34 #[.pointer (some ⟨sy,0,none⟩),.int .i64 i,.int .i64 li,.int .i64 wd,.int .u64 v] w fun e w'=>e=.returned (.bool false)∧w=w':=by
 obtain ⟨z,L,rfl,rfl,rfl,h⟩:=hm
 exact zstore_off i li wd v w h hi hl
theorem mreach_no (k li:Int) (hk:inB k c.co=false):Calls Tryz.prog 49 #[.pointer (some ⟨sy,0,none⟩),.int .i64 k,.int .i64 li] w fun e w'=>e=.returned (.bool false)∧w=w':=by
 obtain ⟨z,L,rfl,rfl,rfl,h⟩:=hm
 exact zreach_no k li w h hk
theorem mreach_off (i:Nat) (li:Int) (hi:i<c.co) (hl:inB li c.li=false):Calls Tryz.prog 49 #[.pointer (some ⟨sy,0,none⟩),.int .i64 i,.int .i64 li] w fun e w'=>e=.returned (.bool false)∧w=w':=by
 obtain ⟨z,L,rfl,rfl,rfl,h⟩:=hm
 exact zreach_off i li w h hi hl
theorem mevict_no (k li:Int) (hk:inB k c.co=false):Calls Tryz.prog 32 #[.pointer (some ⟨sy,0,none⟩),.int .i64 k,.int .i64 li] w fun e w'=>e=.returned (.int .i64 1)∧w=w':=by
 obtain ⟨z,L,rfl,rfl,rfl,h⟩:=hm
 exact zevict_no k li w h hk
theorem mevict_off (i:Nat) (li:Int) (hi:i<c.co) (hl:inB li c.li=false):Calls Tryz.prog 32 #[.pointer (some ⟨sy,0,none⟩),.int .i64 i,.int .i64 li] w fun e w'=>e=.returned (.int .i64 1)∧w=w':=by
 obtain ⟨z,L,rfl,rfl,rfl,h⟩:=hm
 exact zevict_off i li w h hi hl
theorem mflush_no (k li:Int) (kd:Int) (hk:inB k c.co=false):Calls Tryz.prog 30 #[.pointer (some ⟨sy,0,none⟩),.int .i64 k,.int .i64 li,.int .i64 kd] w fun e w'=>e=.returned (.int .i64 1)∧w=w':=by
 obtain ⟨z,L,rfl,rfl,rfl,h⟩:=hm
 exact zflush_no k li kd w h hk
theorem mflush_off (i:Nat) (li:Int) (kd:Int) (hi:i<c.co) (hl:inB li c.li=false):Calls Tryz.prog 30 #[.pointer (some ⟨sy,0,none⟩),.int .i64 i,.int .i64 li,.int .i64 kd] w fun e w'=>e=.returned (.int .i64 1)∧w=w':=by
 obtain ⟨z,L,rfl,rfl,rfl,h⟩:=hm
 exact zflush_off i li kd w h hi hl
theorem mflush_kind (i:Nat) (li kd:Int) (hi:i<c.co) (hl:inB li c.li=true) (h4:kd≠4) (h5:kd≠5):Calls Tryz.prog 30 #[.pointer (some ⟨sy,0,none⟩),.int .i64 i,.int .i64 li,.int .i64 kd] w fun e w'=>e=.returned (.int .i64 1)∧w=w':=by
 obtain ⟨z,L,rfl,rfl,rfl,h⟩:=hm
 exact zflush_kind i li kd w h hi hl h4 h5
theorem mup_no (k:Int) (hk:inB k c.co=false):Calls Tryz.prog 35 #[.pointer (some ⟨sy,0,none⟩),.int .i64 k] w fun e w'=>e=.returned (.int .i64 1)∧w=w':=by
 obtain ⟨z,L,rfl,rfl,rfl,h⟩:=hm
 exact zup_no k w h hk
theorem manswer_no (k:Int) (hk:inB k c.co=false):Calls Tryz.prog 37 #[.pointer (some ⟨sy,0,none⟩),.int .i64 k] w fun e w'=>e=.returned (.int .i64 1)∧w=w':=by
 obtain ⟨z,L,rfl,rfl,rfl,h⟩:=hm
 exact zanswer_no k w h hk
theorem mhear_no (k:Int) (hk:inB k c.co=false):Calls Tryz.prog 36 #[.pointer (some ⟨sy,0,none⟩),.int .i64 k] w fun e w'=>e=.returned (.tuple #[.agg (msc msZ),.int .i64 1])∧Chg [] w w':=by
 obtain ⟨z,L,rfl,rfl,rfl,h⟩:=hm
 exact zhear_no k w h hk
theorem mdrop_off (k:Int) (hk:inB k c.li=false):Calls Tryz.prog 31 #[.pointer (some ⟨sy,0,none⟩),.int .i64 k] w fun e w'=>e=.returned (.int .i64 1)∧w=w':=by
 obtain ⟨z,L,rfl,rfl,rfl,h⟩:=hm
 exact zdrop_off k w h hk
theorem mdrain_off (k:Int) (hk:inB k c.li=false):Calls Tryz.prog 51 #[.pointer (some ⟨sy,0,none⟩),.int .i64 k] w fun e w'=>e=.returned (.int .i64 1)∧w=w':=by
 obtain ⟨z,L,rfl,rfl,rfl,h⟩:=hm
 exact zdrain_off k w h hk
end
theorem mnew_none (W w:World) (c:Cg) (hc:c.Ok) (hW:Chg [] W w) (A:Option Addr) (nc:Nat):Calls Tryz.prog 12 #[.agg c.cells,.slice A 0 nc] w fun e w'=>∃sy F,e=.returned (.tuple #[.pointer (some ⟨sy,0,none⟩),.int .i64 0])∧Mem W w' c sy F (List.replicate c.co (pt0 c)) (List.replicate c.li enE) [] (List.replicate (c.li*8) 0)∧Chg [] w w'∧∀k∈F,w.heap.size≤k:=
 (znew_none W w c hc hW A nc).mono fun e w' ⟨z,L,he,hm,hp,hc,hk⟩=>⟨z.sy,z.all L,he,⟨z,L,rfl,rfl,hp,hm⟩,hc,hk⟩
end
section
set_option maxHeartbeats 1000000
attribute [local go_sem ↓] QA QQ QH Q8 QS QC Za QN Zs Zh Qm Ql heap_alloc Qo heap_setCell Qb ZF Z4 Z5 Z3 Zc ZB Zk ZI Zv ZM ZK ZN ZL
attribute [local go_sem] Qc Qa Qd Qj Qf Qe Qh Qi Qw ZE QZ Zq QO QG Q6 Q0 Q5 Zi Q9 QM QB QI Zj Q7 Qz QP Qt Qk Qs Qr Qq Qp Qg Zb Ze lit8 QF ZG Zr Zt ZC Zd Zy ZH Zz Qv ZA Zl Zm QE QD QR ZO
attribute [local simp ↓] Qm Ql heap_alloc Qo heap_setCell Qb
attribute [local simp] Qc Qa Qd Qj Qf Qe Qh Qi Qw QB Qk Qs Qr Qq Qp Qg QF Qv QE QD QR QI
attribute [local go_sem ↓] XP XQ XO XN XS XR XM XZ
attribute [local go_sem] Xi XV Xh ZR ZT QL Xp ZZ X3 Zw QW QV QU QY QX QT QK QJ Zg Zf Xm ZW
attribute [local simp] QL Zf QW QV QU QY QX QT QK QJ Zg
attribute [local go_sem ↓] Xo ZV Xn ZU Z0
attribute [local go_sem] Xk Xj ZY Xl Qx Qy Z6
attribute [local simp] Z0 Qx Qy QI Zw
attribute [local go_sem ↓] Xg Yh Yi Y8
attribute [local simp] Xg
attribute [local go_sem ↓] Qea cg_li cg_vo cg_qu
attribute [local go_sem] Qdo Qa5 Qem Qb2
section
variable {W w:World} {c:Cg} {sy:Nat} {F:List Nat} {ps:List Pt} {en:List En} {es:List Ent} {xs:List Int} (hm:Mem W w c sy F ps en es xs)
include hm
theorem mup_yes (i k:Nat) (x:Pt) (hy:ps[i]? =some x) (m:Ms) (rest:List Ms) (e e':En) (l:List Int) (hl:l.length=8) (ds:List Sd) (hT:Tab W) (hx:x.up=m::rest) (hlu:x.up.length≤1000) (hk:m.li=(k:Int)) (he:en[k]? =some e) (hX:ln (over xs es) k=l)
 (hr:askE (Qgp e l hl) i m=((e',ds),0)) (hto:∀d∈ds,0≤d.to∧d.to<c.co∧mg d.m=true) (M:Nat) (hM:∀x∈ps,x.dn.length≤M) (hMn:M+ds.length≤1000):
 Calls Tryz.prog 35 #[.pointer (some ⟨sy,0,none⟩),.int .i64 i] w fun r w'=>r=.returned (.int .i64 0)∧MemTo W w c sy F (XY (ps.set i {x with up:=rest}) ds) (en.set k e') es xs w':=
 (mup_go hm i k x hy m rest e e' l hl ds 0 hT hx hlu hk he hX hr hto M hM hMn).mono fun r w' h=>h.elim (fun h=>absurd rfl h.1) (fun h=>h.2)
theorem manswer_yes (i k:Nat) (x:Pt) (hy:ps[i]? =some x) (m:Ms) (rest:List Ms) (e e':En) (ds:List Sd) (hT:Tab W) (hx:x.an=m::rest) (hlu:x.an.length≤1000) (hk:m.li=(k:Int)) (he:en[k]? =some e)
 (hr:ansE e i m=((e',ds),0)) (hto:∀d∈ds,0≤d.to∧d.to<c.co∧mg d.m=true) (M:Nat) (hM:∀x∈ps,x.dn.length≤M) (hMn:M+ds.length≤1000):
 Calls Tryz.prog 37 #[.pointer (some ⟨sy,0,none⟩),.int .i64 i] w fun r w'=>r=.returned (.int .i64 0)∧MemTo W w c sy F (XY (ps.set i {x with an:=rest}) ds) (en.set k e') es xs w':=
 (manswer_go hm i k x hy m rest e e' ds 0 hT hx hlu hk he hr hto M hM hMn).mono fun r w' h=>h.elim (fun h=>absurd rfl h.1) (fun h=>h.2)
theorem Qgl (i:Nat) (x:Pt) (hy:ps[i]? =some x) (m:Ms) (rest:List Ms) (s':Sta) (av:List Ms) (hT:Tabs W) (hx:x.dn=m::rest) (hlu:x.dn.length≤1000) (hu:x.s.2≤1000000000) (hr:hearF c.se c.wa x.s m=(s',(av,0))) (ha1:av.length≤1) (hla:x.an.length<1000) (hma:∀a∈av,mg a=true):
 Calls Tryz.prog 36 #[.pointer (some ⟨sy,0,none⟩),.int .i64 i] w fun r w'=>r=.returned (.tuple #[.agg (msc m),.int .i64 0])∧MemTo W w c sy F (ps.set i {x with s:=s',an:=x.an++av,dn:=rest}) en es xs w':=
 (mhear_go hm i x hy m rest s' av 0 hT hx hlu hu hr ha1 hla hma).mono fun r w' h=>h.elim (fun h=>absurd rfl h.1) (fun h=>h.2)
end
def kc:Cg:=⟨2,6,1,1,2,2,2⟩
theorem kc_ok:kc.Ok:=⟨by decide,by decide,by decide,by decide,by decide,by decide,by decide,by decide,by decide,by decide,by decide⟩
def kx:List Int:=List.replicate (kc.li*8) 0
def ka1:Sta:=([⟨5,3,[0,0,0,0,0,0,0,0],1,rfl⟩,sltZ],1)
def ka2:Sta:=([⟨2,3,[0,0,0,0,0,0,0,0],2,rfl⟩,sltZ],2)
def ka3:Sta:=([⟨3,3,[0,7,0,0,0,0,0,0],3,rfl⟩,sltZ],3)
def ka4:Sta:=([⟨1,3,[0,7,0,0,0,0,0,0],4,rfl⟩,sltZ],4)
def kb1:Sta:=([⟨4,3,[0,0,0,0,0,0,0,0],1,rfl⟩,sltZ],1)
def kb2:Sta:=([⟨1,3,[0,7,0,0,0,0,0,0],2,rfl⟩,sltZ],2)
def kb3:Sta:=([⟨1,3,[0,7,0,0,0,0,0,0],3,rfl⟩,sltZ],3)
def kM:Ms:=ms4 2 3 false false
def kS:Ms:=ms4 1 3 false false
def kDM:Ms:=ms5 10 3 [0,0,0,0,0,0,0,0] rfl
def kDn:Ms:=ms4 13 3 false false
def kAk:Ms:=⟨7,3,true,true,[0,7,0,0,0,0,0,0],rfl⟩
def kDS:Ms:=ms5 8 3 [0,7,0,0,0,0,0,0] rfl
def ke1:En:=⟨true,false,[0,0,0,0,0,0,0,0],0,0#8,0,0,0#8,rfl⟩
def ke2:En:=⟨true,false,[0,0,0,0,0,0,0,0],0,0#8,1,1,1#8,rfl⟩
def ke3:En:=⟨true,true,[0,7,0,0,0,0,0,0], -1,3#8,0,0,0#8,rfl⟩
theorem kv1:storeF kc.se kc.wa (pt0 kc).s 3 1 7=(ka1,(false,[kM])):=by rfl
theorem kv2:askE (Qgp enE [0,0,0,0,0,0,0,0] rfl) 0 kM=((ke1,[⟨0,kDM⟩]),0):=by rfl
theorem kv3:hearF kc.se kc.wa ka1 kDM=(ka2,([],0)):=by rfl
theorem kv4:storeF kc.se kc.wa ka2 3 1 7=(ka3,(true,[])):=by rfl
theorem kv5:loadF kc.se kc.wa (pt0 kc).s 3 1=(kb1,(0,false,[kS])):=by rfl
theorem kv6:askE (Qgp ke1 [0,0,0,0,0,0,0,0] rfl) 1 kS=((ke2,[⟨0,kDn⟩]),0):=by rfl
theorem kv7:hearF kc.se kc.wa ka3 kDn=(ka4,([kAk],0)):=by rfl
theorem kv8:ansE ke2 0 kAk=((ke3,[⟨1,kDS⟩]),0):=by rfl
theorem kv9:hearF kc.se kc.wa kb1 kDS=(kb2,([],0)):=by rfl
theorem kv10:loadF kc.se kc.wa kb2 3 1=(kb3,(7,true,[])):=by rfl
theorem results_cg {fn:Func} {p:Tmp} (h:fn.results=#[.cell p 23]) (tmps:Array Value) (w:World) (b:Nat) (x:Cg) (fr:Nat×Nat)
 (hp:tmps.getD p undef=.pointer (some ⟨b,0,none⟩)) (hb:w.heap[b]? =some (.cells x.cells 23 fr)):(results fn tmps).run Tryz.prog w=.ok (.agg x.cells) w:=by
 have hp':tmps[p]?.getD undef=.pointer (some ⟨b,0,none⟩):=by simpa using hp
 have:=run_loadVar_row (P:=Tryz.prog) w b 23 23 x.cells fr _ hb Tryz.underlying23 rfl (by rw [Qa5];kernel_rfl)
 exact Tz93
def cgZ:Cg:=⟨0,0,0,0,0,0,0⟩
theorem kc_lit:(#[.int .i64 2,.int .i64 6,.int .i64 1,.int .i64 1,.int .i64 2,.int .i64 2,.int .i64 2]:Array Value)=kc.cells:=rfl
theorem storeCg (x y:Value):Instr.storeAt 23 x y=JW 23 7 x y:=rfl
attribute [local go_sem ↓] storeCg
theorem kplain (w:World):Calls Tryz.prog 33 #[] w fun e w'=>e=.returned (.agg kc.cells)∧Chg [] w w':=by
 go_enter Tryz.func33,Tryz.ntmps33
 try dsimp only [List.append]
 go_wp2_with fail
 refine bodyPost_ret (v:=.agg kc.cells) ?_ (by rfl) ?_
 ·exact results_cg (by rfl) _ _ w.heap.size kc (0,0) (by rfl) (by rw [←kc_lit];simp)
 ·exact ⟨rfl,by (repeat' (first |with_reducible exact Chg.refl _ _|with_reducible assumption|with_reducible refine Chg.drew ?_|with_reducible refine Chg.drewN ?_ _|with_reducible refine Chg.alloc ?_ _|with_reducible refine Chg.putRow ?_ _ _ _ (.inr ?_)|with_reducible refine Chg.setCell ?_ _ _ _ (.inr ?_)|(show _≤_;first |exact Nat.le_refl _|omega|(simp;done))))⟩
theorem enc_part (z:Lay) (c:Cg) (t:TypeId) (f:Nat×Nat):Xq (some (.cells (z.enc c).toArray t f)) 0 7=c.cells:=by
 rw [XF];rfl
theorem enc_in (z:Lay) (c:Cg) (t:TypeId) (f:Nat×Nat):JM (some (.cells (z.enc c).toArray t f)) 0 7=true:=by
 rw [Qj]
 exact decide_eq_true (show 0+7≤(z.enc c).toArray.size by simp [Lay.enc,Cg.enc])
theorem zconfig_ok {W w:World} {c:Cg} {z:Lay} {L:List (Po×Pt)} {en:List En} {es:List Ent} {xs:List Int} (h:Msd W w c z L en es xs):Calls Tryz.prog 25 #[.pointer (some ⟨z.sy,0,none⟩)] w fun e w'=>e=.returned (.agg c.cells)∧Chg [] w w':=by
 have rS:=h.sys
 have oS:=old rS
 have p0:=fun t f=>enc_part z c t f
 have p1:=fun t f=>enc_in z c t f
 clear h
 go_enter Tryz.func25,Tryz.ntmps25
 try dsimp only [List.append]
 go_wp2_with fail
 refine bodyPost_ret (v:=.agg c.cells) ?_ (by rfl) ?_
 ·exact results_cg (by rfl) _ _ w.heap.size c (0,0) (by rfl) (by rw [Qb _ _ _ _ _ (by rw [Yr];rfl),if_pos rfl,Yr];exact Qe _ _ _ _ (by rw [Qa5];rfl))
 ·exact ⟨rfl,by (repeat' (first |with_reducible exact Chg.refl _ _|with_reducible assumption|with_reducible refine Chg.drew ?_|with_reducible refine Chg.drewN ?_ _|with_reducible refine Chg.alloc ?_ _|with_reducible refine Chg.putRow ?_ _ _ _ (.inr ?_)|with_reducible refine Chg.setCell ?_ _ _ _ (.inr ?_)|(show _≤_;first |exact Nat.le_refl _|omega|(simp;done))))⟩
theorem mconfig_ok {W w:World} {c:Cg} {sy:Nat} {F:List Nat} {ps:List Pt} {en:List En} {es:List Ent} {xs:List Int} (hm:Mem W w c sy F ps en es xs):Calls Tryz.prog 25 #[.pointer (some ⟨sy,0,none⟩)] w fun e w'=>e=.returned (.agg c.cells)∧Chg [] w w':=by
 obtain ⟨z,L,rfl,rfl,rfl,h⟩:=hm
 exact zconfig_ok h
theorem kfield_sh (W:World):(Instr.field 56 (.agg (ec ke3)) 4).run Tryz.prog W=.ok (.int .u8 3) W:=by kernel_rfl
theorem kfield_co (W:World):(Instr.field 23 (.agg kc.cells) 0).run Tryz.prog W=.ok (.int .i64 2) W:=by kernel_rfl
attribute [local go_sem ↓] kfield_sh kfield_co
def kf0:List En:=List.replicate kc.li enE
def kf1:List En:=kf0.set 3 ke1
def kf2:List En:=kf1.set 3 ke2
def kf3:List En:=kf2.set 3 ke3
def kp0:List Pt:=[pt0 kc,pt0 kc]
def kp1:List Pt:=[⟨ka1,[kM],[],[]⟩,pt0 kc]
def kp2:List Pt:=[⟨ka1,[],[],[kDM]⟩,pt0 kc]
def kp3:List Pt:=[⟨ka2,[],[],[]⟩,pt0 kc]
def kp4:List Pt:=[⟨ka3,[],[],[]⟩,pt0 kc]
def kp5:List Pt:=[⟨ka3,[],[],[]⟩,⟨kb1,[kS],[],[]⟩]
def kp6:List Pt:=[⟨ka3,[],[],[kDn]⟩,⟨kb1,[],[],[]⟩]
def kp7:List Pt:=[⟨ka4,[],[kAk],[]⟩,⟨kb1,[],[],[]⟩]
def kp8:List Pt:=[⟨ka4,[],[],[]⟩,⟨kb1,[],[],[kDS]⟩]
def kp9:List Pt:=[⟨ka4,[],[],[]⟩,⟨kb2,[],[],[]⟩]
def kp10:List Pt:=[⟨ka4,[],[],[]⟩,⟨kb3,[],[],[]⟩]
set_option maxHeartbeats 4000000 in
theorem mwakes (W:World) (hT:Tabs W):Calls Tryz.prog 11 #[] W fun e w'=>e=.returned (.bool true)∧Chg [] W w':=by
 have HT:=Vh hT
 clear hT
 go_enter Tryz.func11,Tryz.ntmps11
 try dsimp only [List.append]
 go_wp2_with fail
 refine (kplain W).mono ?_
 rintro e w0 ⟨rfl,c0⟩
 have C0:=Vh c0
 clear c0
 go_wp2_with fail
 refine (mnew_none W w0 kc kc_ok C0.out none 0).mono ?_
 rintro e w1 ⟨sy,F0,rfl,hm,hc,hk⟩
 have M0:=Vh (show Mem W w1 kc sy F0 kp0 kf0 [] kx from hm)
 clear hm hc hk
 have hop:=Qgi M0.out 0 3 1 7 ((pt0 kc):Pt) rfl HT.out.1 (by decide) (by decide) (by decide) (by rw [kv1];decide) (by rw [kv1];decide)
 rw [kv1] at hop
 have HO:=Vh hop
 clear hop
 go_wp2_with fail
 refine HO.out.mono ?_
 clear HO
 rintro e w2 ⟨rfl,F1,hm,hc,hk⟩
 have M1:=Vh (show Mem W w2 kc sy F1 kp1 kf0 [] kx from hm)
 clear hm hc hk M0
 have hop:=mup_yes M1.out 0 3 ((⟨ka1,[kM],[],[]⟩):Pt) rfl kM [] enE ke1 [0,0,0,0,0,0,0,0] rfl [⟨0,kDM⟩] HT.out.1 rfl (by decide) rfl rfl rfl kv2 (by decide) 1 (by decide) (by decide)
 have HO:=Vh hop
 clear hop
 go_wp2_with fail
 refine HO.out.mono ?_
 clear HO
 rintro e w3 ⟨rfl,F2,hm,hc,hk⟩
 have M2:=Vh (show Mem W w3 kc sy F2 kp2 kf1 [] kx from hm)
 clear hm hc hk M1
 have hop:=Qgl M2.out 0 ((⟨ka1,[],[],[kDM]⟩):Pt) rfl kDM [] ka2 [] HT.out rfl (by decide) (by decide) kv3 (by decide) (by decide) (by decide)
 have HO:=Vh hop
 clear hop
 go_wp2_with fail
 refine HO.out.mono ?_
 clear HO
 rintro e w4 ⟨rfl,F3,hm,hc,hk⟩
 have M3:=Vh (show Mem W w4 kc sy F3 kp3 kf1 [] kx from hm)
 clear hm hc hk M2
 replace M3:=Vh (M3.out.keep ((Chg.refl [] w4).alloc (.cells (msc kDM) 38)))
 have hop:=Qgi M3.out 0 3 1 7 ((⟨ka2,[],[],[]⟩):Pt) rfl HT.out.1 (by decide) (by decide) (by decide) (by rw [kv4];decide) (by rw [kv4];decide)
 rw [kv4] at hop
 have HO:=Vh hop
 clear hop
 go_wp2_with fail
 refine HO.out.mono ?_
 clear HO
 rintro e w5 ⟨rfl,F4,hm,hc,hk⟩
 have M4:=Vh (show Mem W w5 kc sy F4 kp4 kf1 [] kx from hm)
 clear hm hc hk M3
 have hop:=mload_ok M4.out 1 3 1 ((pt0 kc):Pt) rfl HT.out.1 (by decide) (by decide) (by decide) (by rw [kv5];decide) (by rw [kv5];decide)
 rw [kv5] at hop
 have HO:=Vh hop
 clear hop
 go_wp2_with fail
 refine HO.out.mono ?_
 clear HO
 rintro e w6 ⟨rfl,F5,hm,hc,hk⟩
 have M5:=Vh (show Mem W w6 kc sy F5 kp5 kf1 [] kx from hm)
 clear hm hc hk M4
 have hop:=mup_yes M5.out 1 3 ((⟨kb1,[kS],[],[]⟩):Pt) rfl kS [] ke1 ke2 [0,0,0,0,0,0,0,0] rfl [⟨0,kDn⟩] HT.out.1 rfl (by decide) rfl rfl rfl kv6 (by decide) 1 (by decide) (by decide)
 have HO:=Vh hop
 clear hop
 go_wp2_with fail
 refine HO.out.mono ?_
 clear HO
 rintro e w7 ⟨rfl,F6,hm,hc,hk⟩
 have M6:=Vh (show Mem W w7 kc sy F6 kp6 kf2 [] kx from hm)
 clear hm hc hk M5
 have hop:=Qgl M6.out 0 ((⟨ka3,[],[],[kDn]⟩):Pt) rfl kDn [] ka4 [kAk] HT.out rfl (by decide) (by decide) kv7 (by decide) (by decide) (by decide)
 have HO:=Vh hop
 clear hop
 go_wp2_with fail
 refine HO.out.mono ?_
 clear HO
 rintro e w8 ⟨rfl,F7,hm,hc,hk⟩
 have M7:=Vh (show Mem W w8 kc sy F7 kp7 kf2 [] kx from hm)
 clear hm hc hk M6
 have hop:=manswer_yes M7.out 0 3 ((⟨ka4,[],[kAk],[]⟩):Pt) rfl kAk [] ke2 ke3 [⟨1,kDS⟩] HT.out.1 rfl (by decide) rfl rfl kv8 (by decide) 1 (by decide) (by decide)
 have HO:=Vh hop
 clear hop
 go_wp2_with fail
 refine HO.out.mono ?_
 clear HO
 rintro e w9 ⟨rfl,F8,hm,hc,hk⟩
 have M8:=Vh (show Mem W w9 kc sy F8 kp8 kf3 [] kx from hm)
 clear hm hc hk M7
 have hop:=Qgl M8.out 1 ((⟨kb1,[],[],[kDS]⟩):Pt) rfl kDS [] kb2 [] HT.out rfl (by decide) (by decide) kv9 (by decide) (by decide) (by decide)
 have HO:=Vh hop
 clear hop
 go_wp2_with fail
 refine HO.out.mono ?_
 clear HO
 rintro e w10 ⟨rfl,F9,hm,hc,hk⟩
 have M9:=Vh (show Mem W w10 kc sy F9 kp9 kf3 [] kx from hm)
 clear hm hc hk M8
 have hop:=mload_ok M9.out 1 3 1 ((⟨kb2,[],[],[]⟩):Pt) rfl HT.out.1 (by decide) (by decide) (by decide) (by rw [kv10];decide) (by rw [kv10];decide)
 rw [kv10] at hop
 have HO:=Vh hop
 clear hop
 go_wp2_with fail
 refine HO.out.mono ?_
 clear HO
 rintro e w11 ⟨rfl,F10,hm,hc,hk⟩
 have M10:=Vh (show Mem W w11 kc sy F10 kp10 kf3 [] kx from hm)
 clear hm hc hk M9
 go_wp2_with fail
 refine (mentry_ok M10.out 3 ke3 rfl).mono ?_
 rintro e w12 ⟨rfl,c12⟩
 replace M10:=Vh (M10.out.keep c12)
 clear c12
 go_wp2_with fail
 have hsl:=mslots_ok M10.out 0 ((⟨ka4,[],[],[]⟩):Pt) rfl
 rw [show live (((⟨ka4,[],[],[]⟩):Pt)).s.1=[⟨1,3,[0,7,0,0,0,0,0,0],4,rfl⟩] from rfl] at hsl
 refine hsl.mono ?_
 clear hsl
 rintro e w13 ⟨A,n,rfl,_,c13⟩
 replace M10:=Vh (M10.out.keep c13)
 clear c13
 go_wp2_with fail
 refine (mconfig_ok M10.out).mono ?_
 rintro e w14 ⟨rfl,c14⟩
 replace M10:=Vh (M10.out.keep c14)
 clear c14
 go_wp2_with fail
 go_ret
 exact ⟨rfl,M10.out.chg⟩
end
section
set_option maxHeartbeats 1000000
attribute [local go_sem ↓] QA QQ QH Q8 QS QC Za QN Zs Zh Qm Ql heap_alloc Qo heap_setCell Qb ZF Z4 Z5 Z3 Zc ZB Zk ZI Zv ZM ZK ZN ZL
attribute [local go_sem] Qc Qa Qd Qj Qf Qe Qh Qi Qw ZE QZ Zq QO QG Q6 Q0 Q5 Zi Q9 QM QB QI Zj Q7 Qz QP Qt Qk Qs Qr Qq Qp Qg Zb Ze lit8 QF ZG Zr Zt ZC Zd Zy ZH Zz Qv ZA Zl Zm QE QD QR ZO
attribute [local simp ↓] Qm Ql heap_alloc Qo heap_setCell Qb
attribute [local simp] Qc Qa Qd Qj Qf Qe Qh Qi Qw QB Qk Qs Qr Qq Qp Qg QF Qv QE QD QR QI
attribute [local go_sem ↓] XP XQ XO XN XS XR XM XZ
attribute [local go_sem] Xi XV Xh ZR ZT QL Xp ZZ X3 Zw QW QV QU QY QX QT QK QJ Zg Zf Xm ZW
attribute [local simp] QL Zf QW QV QU QY QX QT QK QJ Zg
attribute [local go_sem ↓] Xo ZV Xn ZU Z0
attribute [local go_sem] Xk Xj ZY Xl Qx Qy Z6
attribute [local simp] Z0 Qx Qy QI Zw
attribute [local go_sem ↓] Xg Yh Yi Y8
attribute [local simp] Xg
structure MStp where
 kd:Int
 co:Int
 li:Int
 wd:Int
 v:Int
def mstc (x:MStp):Array Value:=#[.int .i64 x.kd,.int .i64 x.co,.int .i64 x.li,.int .i64 x.wd,.int .u64 x.v]
theorem Qd4 (x:MStp):(mstc x).size=5:=rfl
theorem mstc_0 (x:MStp):(mstc x)[0]? =some (.int .i64 x.kd):=rfl
theorem mstc_1 (x:MStp):(mstc x)[1]? =some (.int .i64 x.co):=rfl
theorem mstc_2 (x:MStp):(mstc x)[2]? =some (.int .i64 x.li):=rfl
theorem mstc_3 (x:MStp):(mstc x)[3]? =some (.int .i64 x.wd):=rfl
theorem mstc_4 (x:MStp):(mstc x)[4]? =some (.int .u64 x.v):=rfl
theorem Qf2:Wide Tryz.prog 42 5:=⟨⟨_,Tryz.underlying42,by rfl⟩,by kernel_rfl⟩
theorem Qgn (x:Value):Instr.loadAt 42 x=Qc8 42 5 x:=rfl
attribute [local go_sem ↓] Qgn mstc_0 mstc_1 mstc_2 mstc_3 mstc_4
attribute [local go_sem] Qf2 Qd4
theorem X9 {fn:Func} {a b p d:Tmp} (h:fn.results=#[.tmp a,.tmp b,.cell p 38,.tmp d]) (tmps:Array Value) (w:World) (k:Nat) (m:Ms) (fr:Nat×Nat)
 (hp:tmps.getD p undef=.pointer (some ⟨k,0,none⟩)) (hb:w.heap[k]? =some (.cells (msc m) 38 fr)) (x y u:Value) (hx:tmps.getD a undef=x) (hy:tmps.getD b undef=y) (hu:tmps.getD d undef=u):
 (results fn tmps).run Tryz.prog w=.ok (.tuple #[x,y,.agg (msc m),u]) w:=by
 subst hx hy hu
 have hp':tmps[p]?.getD undef=.pointer (some ⟨k,0,none⟩):=by simpa using hp
 have:=run_loadVar_row (P:=Tryz.prog) w k 38 38 (msc m) fr _ hb Tryz.underlying38 rfl (by rw [Qv];kernel_rfl)
 exact Tz93
theorem cgZ_field (W:World):(Instr.field 23 (.agg cgZ.cells) 0).run Tryz.prog W=.ok (.int .i64 0) W:=by kernel_rfl
attribute [local go_sem ↓] cgZ_field msg_same
end
end Go.Proofs.YtadeoflkppiflaaGreatDoor
