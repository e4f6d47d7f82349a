/- What all statements of the layer wake: walked. No condition. -/
import Derived.Test.YtkbogampnjamiaaDoorMsgw
namespace Go.Proofs.YtkbogampnjamiaaDoor
open Go.RowKit
set_option linter.unusedVariables false
set_option maxHeartbeats 1000000
attribute [local go_sem ↓] append_appS copy_copS clear_clrS make_mkS slice_slS cell_row frozen_row loadLine storeLine loadMsg storeMsg loadHas storeHas heap_drew heap_drewN heap_alloc heap_past heap_setCell heap_putRow vs_get msc_kd msc_li msc_di msc_ke
attribute [local go_sem] rowCell_some rowFrozen_some rowHas_some rowIn_some rowPart_full rowPart_lit rowPut_full rowPut_lit rowSet_some size_putRow vs_size vs_one wideLine wideMsg wideHas run_loadS run_storeS run_appS run_copS run_clrS run_mkS run_slS loadW_at storeW_at fit_all fit_le one_int one_bool one_pointer one_slice allOne_list putRow_new ne_size1 ne_size2 ne_size3 ne_size4 zero8_length line_eq lit8 msc_size msc_one msc_part msc_in fold_msc
attribute [local simp ↓] heap_drew heap_drewN heap_alloc heap_past heap_setCell heap_putRow
attribute [local simp] rowCell_some rowFrozen_some rowHas_some rowIn_some rowPart_full rowPart_lit rowPut_full rowPut_lit rowSet_some size_putRow vs_size fit_all putRow_new ne_size1 ne_size2 ne_size3 ne_size4 zero8_length msc_size

attribute [local go_sem ↓] mlitZ msg_same msg_sameZ
attribute [local simp] mlitZ
theorem Qu.new {W w : World} (hc : Chg [] W w) (ht : Tab W) : Qu W (w.alloc (.cells #[.slice none 0 0] 34)) w.heap.size w.heap.size [] :=
  ⟨hc.alloc _, ht, hc.size, hc.size, by simp, none, 0, by simp, Vof.nil _ _ _ _ _⟩
theorem pv1 : pushVal [] (ms4 1 3 false false) = 0 := rfl
theorem px1 : pushXs [] (ms4 1 3 false false) = [ms4 1 3 false false] := rfl
theorem pv2 : pushVal [ms4 1 3 false false] (ms4 1 3 true false) = 11 := rfl
theorem px2 : pushXs [ms4 1 3 false false] (ms4 1 3 true false) = [ms4 1 3 false false] := rfl
theorem pv3 : pushVal [ms4 1 3 false false] (ms4 13 4 false false) = 0 := rfl
theorem px3 : pushXs [ms4 1 3 false false] (ms4 13 4 false false) = [ms4 1 3 false false, ms4 13 4 false false] := rfl
set_option maxRecDepth 100000 in
theorem mwakes (W : World) (ht : Tab W) : Calls Tryd.prog 16 #[] W fun e w' => e = .returned (.bool true) ∧ Chg [] W w' := by
  go_enter Tryd.func16, Tryd.ntmps16
  try dsimp only [List.append]
  go_wp2_with fail
  have Q0 := Lib.hid (Qu.new (Chg.refl [] W) ht)
  generalize W.heap.size = q at Q0 ⊢
  generalize W.alloc (.cells #[.slice none 0 0] 34) = w0 at Q0 ⊢
  refine (mpush_any Q0.out (ms4 1 3 false false)).mono ?_
  rintro e w1 ⟨rfl, b1, q1, c1, _⟩
  rw [px1] at q1
  rw [pv1]
  have Q1 := Lib.hid q1
  clear q1 c1 Q0
  go_wp2_with fail
  refine (mpush_any Q1.out (ms4 1 3 true false)).mono ?_
  rintro e w2 ⟨rfl, b2, q2, c2, _⟩
  rw [px2] at q2
  rw [pv2]
  have Q2 := Lib.hid q2
  clear q2 c2 Q1
  go_wp2_with fail
  refine (mpush_any Q2.out (ms4 13 4 false false)).mono ?_
  rintro e w3 ⟨rfl, b3, q3, c3, _⟩
  rw [px3] at q3
  rw [pv3]
  have Q3 := Lib.hid q3
  clear q3 c3 Q2
  go_wp2_with fail
  refine (mpop_ok Q3.out).mono ?_
  rintro e w4 ⟨rfl, b4, q4, c4, _⟩
  have Q4 := Lib.hid (show Qu W w4 q b4 [ms4 13 4 false false] from q4)
  rw [show headM [ms4 1 3 false false, ms4 13 4 false false] = ms4 1 3 false false from rfl, show someB [ms4 1 3 false false, ms4 13 4 false false] = true from rfl]
  clear q4 c4 Q3
  go_wp2_with fail
  have r5 : (w4.alloc (.cells (msc (ms4 1 3 false false)) 26)).heap[w4.heap.size]? = some (.cells (msc (ms4 1 3 false false)) 26 (0, 0)) := by simp
  have Q5 := Lib.hid (Q4.out.stay ((Chg.refl [] w4).alloc (.cells (msc (ms4 1 3 false false)) 26)))
  clear Q4
  generalize w4.heap.size = p5 at r5 ⊢
  generalize w4.alloc (.cells (msc (ms4 1 3 false false)) 26) = w5 at r5 Q5 ⊢
  refine (mhead_ok Q5.out).mono ?_
  rintro e w6 ⟨rfl, c6⟩
  have r6 := c6.keep r5 (by simp)
  have Q6 := Lib.hid (Q5.out.stay c6)
  rw [show headM [ms4 13 4 false false] = ms4 13 4 false false from rfl, show someB [ms4 13 4 false false] = true from rfl]
  have o6 := old r6
  clear r5 Q5 c6
  go_wp2_with (first
    | (go_at_call 21; refine (len_ok (Q6.out.stay ((Chg.refl [] w6).alloc (.cells (msc (ms4 13 4 false false)) 26)))).mono ?_; rintro e w' ⟨rfl, rfl⟩; rw [show (([ms4 13 4 false false] : List Ms).length : Int) = 1 from rfl])
    | (go_at_call 10; refine (asks_any _ _).mono ?_; rintro e w' ⟨rfl, rfl⟩; rw [show asksB 5 = true from rfl])
    | (go_at_call 12; refine (answers_any _ _).mono ?_; rintro e w' ⟨rfl, rfl⟩; rw [show answersB 7 = true from rfl])
    | (go_at_call 14; refine (tells_any _ _).mono ?_; rintro e w' ⟨rfl, rfl⟩; rw [show tellsB 14 = true from rfl]))
  go_ret
  exact ⟨rfl, Q6.out.1.alloc _⟩
/-- A new block behind another new one, all of which is replaced. -/
theorem putRow_new2 (w : World) (o : Obj) (c cs : Array Value) (t : TypeId) (h : cs.size = c.size) : putRow ((w.alloc o).alloc (.cells c t)) (w.heap.size + 1) 0 cs = (w.alloc o).alloc (.cells cs t) := by
  have := putRow_new (w.alloc o) c cs t h
  rwa [show (w.alloc o).heap.size = w.heap.size + 1 by simp] at this
end Go.Proofs.YtkbogampnjamiaaDoor
