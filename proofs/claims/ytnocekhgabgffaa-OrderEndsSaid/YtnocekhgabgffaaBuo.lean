/- Whether what an event names is there: walked. No condition. -/
import Derived.Test.YtnocekhgabgffaaBud
namespace Go.Proofs.Ytnocekhgabgffaa
open Go.RowKit
set_option linter.unusedVariables false
set_option maxHeartbeats 1000000

set_option maxRecDepth 100000
attribute [local go_sem ↓] append_appS copy_copS clear_clrS make_mkS slice_slS lookup_lookS mput_mputS del_mdelS cell_row frozen_row heap_drew heap_drewN heap_alloc heap_past heap_setCell heap_putRow heap_setB loadEv storeEv loadBe storeBe loadSp storeSp loadNw storeNw loadLine storeLine evc_kd evc_co evc_li evc_wo evc_va bec_fl bec_li bec_wo bec_va nwC_0 nwC_1 spC_0 spC_1
attribute [local go_sem] rowCell_some rowFrozen_some rowHas_some rowIn_some rowPart_full rowPart_lit rowPut_full rowPut_lit rowSet_some size_putRow size_setB run_loadS run_storeS run_appS run_copS run_clrS run_mkS run_slS run_lookS run_mputS run_mdelS loadW_at storeW_at fit_all fit_le one_int one_bool one_pointer one_slice allOne_list putRow_new ne_size1 ne_size2 ne_size3 ne_size4 wideEv wideBe wideSp wideNw wideLine evc_size evc_one evc_ne evc_lit evc_z fold_evc bec_size bec_one bec_lit bec_ne bec_at bec_in spC_size spC_one nwC_size nwC_one nwC_ne nwC_set0 nwC_set1 nwC_lit bec_set0 bec_set1 bec_set2 bec_set3 spC_set0 spC_set1 spC_lit fold_spC spC_ne fold_nwC fold_bec fold_at vs_size vs_one ic_size ic_get
attribute [local simp ↓] heap_drew heap_drewN heap_alloc heap_past heap_setCell heap_putRow heap_setB
attribute [local simp] rowCell_some rowFrozen_some rowHas_some rowIn_some rowPart_full rowPart_lit rowPut_full rowPut_lit rowSet_some size_putRow size_setB fit_all putRow_new ne_size1 ne_size2 ne_size3 ne_size4 evc_size bec_size spC_size nwC_size vs_size fit_le
theorem quiet_same14 {P : Program} {f : FuncId} {args : Array Value} {w : World} {n : Nat} {v : Value} (h : Calls P f args (w.drewN n) fun e w' => e = .returned v ∧ w.drewN n = w') : Calls P f args (w.drewN n) fun e w'' => e = .returned v ∧ ∃ m, w'' = w.drewN m :=
  h.mono fun _ _ ⟨he, hm⟩ => ⟨he, n, hm.symm⟩
section
variable {n m : Nat} {w : World} {q : Nat} {F : List Nat} {S : Bs}
set_option maxHeartbeats 30000000 in
theorem has_ev (h : BusM n m w q F S) {N : Nat} (ok : S.Ok n m N) (kd co li wo va : Int) : Calls Try.prog 57 #[.pointer (some ⟨q, 0, none⟩), .agg (evc ⟨kd, co, li, wo, va⟩)] w fun r w' => r = .returned (.bool (hasB S ⟨kd, co, li, wo, va⟩)) ∧ Chg [] w w' := by
  obtain ⟨bl, cl, kb, bp, bc, bm, xs, G, P0⟩ := h
  obtain ⟨n1, n2⟩ := one_new w (.cells (evc ⟨kd, co, li, wo, va⟩) 41)
  have P := P0.keep n2 (by simp)
  have N2 := Lib.hid n2
  have f1 := fun w => namesc_any kd w
  have f2 := fun w => isof_any co m w
  have f3 := fun w => namesl_any kd w
  have f4 := fun w => isof_any li n w
  have f5 := fun w => namesw_any kd w
  have f6 := fun w => isof_any wo 8 w
  have eh : hasB S ⟨kd, co, li, wo, va⟩ = ((!namesC kd || isOfB co m) && (!namesL kd || isOfB li n) && (!namesW kd || isOfB wo 8)) := by
    unfold hasB; rw [ok.cs, ok.ps]
  rw [eh]
  generalize namesC kd = b1 at *
  generalize isOfB co m = b2 at *
  generalize namesL kd = b3 at *
  generalize isOfB li n = b4 at *
  generalize namesW kd = b5 at *
  generalize isOfB wo 8 = b6 at *
  clear n2 P0 eh ok
  cases b1
  · cases b3
    · cases b5
      · as_aux_lemma =>
          go_enter Try.func57, Try.ntmps57
          try dsimp only [List.append]
          go_upto_region 1 with fail
          generalize w.alloc (.cells (evc ⟨kd, co, li, wo, va⟩) 41) = w1 at *
          generalize w.heap.size = p at *
          have hq := P.hq
          unfold busc at hq
          have hx : ∀ x : Aft w1.heap.size w1, x.w.heap[p]? = some (.cells (evc ⟨kd, co, li, wo, va⟩) 41 (0, 0)) := fun x => (x.block (old n1).lt).trans n1
          have hy : ∀ x : Aft w1.heap.size w1, x.w.heap[q]? = some (.cells #[.int .i64 S.vol, .slice (some ⟨bl, 0, none⟩) n cl, .slice (some ⟨kb, 0, none⟩) n n, .slice (some ⟨bp, 0, none⟩) n n, .slice (some ⟨bc, 0, none⟩) m m, .map (some bm)] 89 (0, 0)) := fun x => (x.block (old hq).lt).trans hq
          clear P
          refine wp_region_aft w1.heap.size (by kernel_rfl) (by kernel_rfl) ?_
          repeat (go_big_quiet_step (first | (go_at_call 58; exact calls_aft_same (f1 _)) | (go_at_call 69; exact calls_aft_same (f3 _)) | (go_at_call 70; exact calls_aft_same (f5 _)) | (go_at_call 68; try unfold spC; first | with_reducible exact calls_aft_same (f2 _) | with_reducible exact calls_aft_same (f4 _) | with_reducible exact calls_aft_same (f6 _))))
          refine wpQuiet_nil ?_
          rintro _ ⟨x, rfl⟩
          go_wp2_with fail
          go_ret
          exact ⟨rfl, N2.out.trans (Below.chg x.below (Nat.le_refl _))⟩
      · cases b6
        · as_aux_lemma =>
            go_enter Try.func57, Try.ntmps57
            try dsimp only [List.append]
            go_upto_region 1 with fail
            generalize w.alloc (.cells (evc ⟨kd, co, li, wo, va⟩) 41) = w1 at *
            generalize w.heap.size = p at *
            have hq := P.hq
            unfold busc at hq
            have hx : ∀ x : Aft w1.heap.size w1, x.w.heap[p]? = some (.cells (evc ⟨kd, co, li, wo, va⟩) 41 (0, 0)) := fun x => (x.block (old n1).lt).trans n1
            have hy : ∀ x : Aft w1.heap.size w1, x.w.heap[q]? = some (.cells #[.int .i64 S.vol, .slice (some ⟨bl, 0, none⟩) n cl, .slice (some ⟨kb, 0, none⟩) n n, .slice (some ⟨bp, 0, none⟩) n n, .slice (some ⟨bc, 0, none⟩) m m, .map (some bm)] 89 (0, 0)) := fun x => (x.block (old hq).lt).trans hq
            clear P
            refine wp_region_aft w1.heap.size (by kernel_rfl) (by kernel_rfl) ?_
            repeat (go_big_quiet_step (first | (go_at_call 58; exact calls_aft_same (f1 _)) | (go_at_call 69; exact calls_aft_same (f3 _)) | (go_at_call 70; exact calls_aft_same (f5 _)) | (go_at_call 68; try unfold spC; first | with_reducible exact calls_aft_same (f2 _) | with_reducible exact calls_aft_same (f4 _) | with_reducible exact calls_aft_same (f6 _))))
            refine wpQuiet_nil ?_
            rintro _ ⟨x, rfl⟩
            go_wp2_with fail
            go_ret
            exact ⟨rfl, N2.out.trans (Below.chg x.below (Nat.le_refl _))⟩
        · as_aux_lemma =>
            go_enter Try.func57, Try.ntmps57
            try dsimp only [List.append]
            go_upto_region 1 with fail
            generalize w.alloc (.cells (evc ⟨kd, co, li, wo, va⟩) 41) = w1 at *
            generalize w.heap.size = p at *
            have hq := P.hq
            unfold busc at hq
            have hx : ∀ x : Aft w1.heap.size w1, x.w.heap[p]? = some (.cells (evc ⟨kd, co, li, wo, va⟩) 41 (0, 0)) := fun x => (x.block (old n1).lt).trans n1
            have hy : ∀ x : Aft w1.heap.size w1, x.w.heap[q]? = some (.cells #[.int .i64 S.vol, .slice (some ⟨bl, 0, none⟩) n cl, .slice (some ⟨kb, 0, none⟩) n n, .slice (some ⟨bp, 0, none⟩) n n, .slice (some ⟨bc, 0, none⟩) m m, .map (some bm)] 89 (0, 0)) := fun x => (x.block (old hq).lt).trans hq
            clear P
            refine wp_region_aft w1.heap.size (by kernel_rfl) (by kernel_rfl) ?_
            repeat (go_big_quiet_step (first | (go_at_call 58; exact calls_aft_same (f1 _)) | (go_at_call 69; exact calls_aft_same (f3 _)) | (go_at_call 70; exact calls_aft_same (f5 _)) | (go_at_call 68; try unfold spC; first | with_reducible exact calls_aft_same (f2 _) | with_reducible exact calls_aft_same (f4 _) | with_reducible exact calls_aft_same (f6 _))))
            refine wpQuiet_nil ?_
            rintro _ ⟨x, rfl⟩
            go_wp2_with fail
            go_ret
            exact ⟨rfl, N2.out.trans (Below.chg x.below (Nat.le_refl _))⟩
    · cases b4
      · as_aux_lemma =>
          go_enter Try.func57, Try.ntmps57
          try dsimp only [List.append]
          go_upto_region 1 with fail
          generalize w.alloc (.cells (evc ⟨kd, co, li, wo, va⟩) 41) = w1 at *
          generalize w.heap.size = p at *
          have hq := P.hq
          unfold busc at hq
          have hx : ∀ x : Aft w1.heap.size w1, x.w.heap[p]? = some (.cells (evc ⟨kd, co, li, wo, va⟩) 41 (0, 0)) := fun x => (x.block (old n1).lt).trans n1
          have hy : ∀ x : Aft w1.heap.size w1, x.w.heap[q]? = some (.cells #[.int .i64 S.vol, .slice (some ⟨bl, 0, none⟩) n cl, .slice (some ⟨kb, 0, none⟩) n n, .slice (some ⟨bp, 0, none⟩) n n, .slice (some ⟨bc, 0, none⟩) m m, .map (some bm)] 89 (0, 0)) := fun x => (x.block (old hq).lt).trans hq
          clear P
          refine wp_region_aft w1.heap.size (by kernel_rfl) (by kernel_rfl) ?_
          repeat (go_big_quiet_step (first | (go_at_call 58; exact calls_aft_same (f1 _)) | (go_at_call 69; exact calls_aft_same (f3 _)) | (go_at_call 70; exact calls_aft_same (f5 _)) | (go_at_call 68; try unfold spC; first | with_reducible exact calls_aft_same (f2 _) | with_reducible exact calls_aft_same (f4 _) | with_reducible exact calls_aft_same (f6 _))))
          refine wpQuiet_nil ?_
          rintro _ ⟨x, rfl⟩
          go_wp2_with fail
          go_ret
          exact ⟨rfl, N2.out.trans (Below.chg x.below (Nat.le_refl _))⟩
      · cases b5
        · as_aux_lemma =>
            go_enter Try.func57, Try.ntmps57
            try dsimp only [List.append]
            go_upto_region 1 with fail
            generalize w.alloc (.cells (evc ⟨kd, co, li, wo, va⟩) 41) = w1 at *
            generalize w.heap.size = p at *
            have hq := P.hq
            unfold busc at hq
            have hx : ∀ x : Aft w1.heap.size w1, x.w.heap[p]? = some (.cells (evc ⟨kd, co, li, wo, va⟩) 41 (0, 0)) := fun x => (x.block (old n1).lt).trans n1
            have hy : ∀ x : Aft w1.heap.size w1, x.w.heap[q]? = some (.cells #[.int .i64 S.vol, .slice (some ⟨bl, 0, none⟩) n cl, .slice (some ⟨kb, 0, none⟩) n n, .slice (some ⟨bp, 0, none⟩) n n, .slice (some ⟨bc, 0, none⟩) m m, .map (some bm)] 89 (0, 0)) := fun x => (x.block (old hq).lt).trans hq
            clear P
            refine wp_region_aft w1.heap.size (by kernel_rfl) (by kernel_rfl) ?_
            repeat (go_big_quiet_step (first | (go_at_call 58; exact calls_aft_same (f1 _)) | (go_at_call 69; exact calls_aft_same (f3 _)) | (go_at_call 70; exact calls_aft_same (f5 _)) | (go_at_call 68; try unfold spC; first | with_reducible exact calls_aft_same (f2 _) | with_reducible exact calls_aft_same (f4 _) | with_reducible exact calls_aft_same (f6 _))))
            refine wpQuiet_nil ?_
            rintro _ ⟨x, rfl⟩
            go_wp2_with fail
            go_ret
            exact ⟨rfl, N2.out.trans (Below.chg x.below (Nat.le_refl _))⟩
        · cases b6
          · as_aux_lemma =>
              go_enter Try.func57, Try.ntmps57
              try dsimp only [List.append]
              go_upto_region 1 with fail
              generalize w.alloc (.cells (evc ⟨kd, co, li, wo, va⟩) 41) = w1 at *
              generalize w.heap.size = p at *
              have hq := P.hq
              unfold busc at hq
              have hx : ∀ x : Aft w1.heap.size w1, x.w.heap[p]? = some (.cells (evc ⟨kd, co, li, wo, va⟩) 41 (0, 0)) := fun x => (x.block (old n1).lt).trans n1
              have hy : ∀ x : Aft w1.heap.size w1, x.w.heap[q]? = some (.cells #[.int .i64 S.vol, .slice (some ⟨bl, 0, none⟩) n cl, .slice (some ⟨kb, 0, none⟩) n n, .slice (some ⟨bp, 0, none⟩) n n, .slice (some ⟨bc, 0, none⟩) m m, .map (some bm)] 89 (0, 0)) := fun x => (x.block (old hq).lt).trans hq
              clear P
              refine wp_region_aft w1.heap.size (by kernel_rfl) (by kernel_rfl) ?_
              repeat (go_big_quiet_step (first | (go_at_call 58; exact calls_aft_same (f1 _)) | (go_at_call 69; exact calls_aft_same (f3 _)) | (go_at_call 70; exact calls_aft_same (f5 _)) | (go_at_call 68; try unfold spC; first | with_reducible exact calls_aft_same (f2 _) | with_reducible exact calls_aft_same (f4 _) | with_reducible exact calls_aft_same (f6 _))))
              refine wpQuiet_nil ?_
              rintro _ ⟨x, rfl⟩
              go_wp2_with fail
              go_ret
              exact ⟨rfl, N2.out.trans (Below.chg x.below (Nat.le_refl _))⟩
          · as_aux_lemma =>
              go_enter Try.func57, Try.ntmps57
              try dsimp only [List.append]
              go_upto_region 1 with fail
              generalize w.alloc (.cells (evc ⟨kd, co, li, wo, va⟩) 41) = w1 at *
              generalize w.heap.size = p at *
              have hq := P.hq
              unfold busc at hq
              have hx : ∀ x : Aft w1.heap.size w1, x.w.heap[p]? = some (.cells (evc ⟨kd, co, li, wo, va⟩) 41 (0, 0)) := fun x => (x.block (old n1).lt).trans n1
              have hy : ∀ x : Aft w1.heap.size w1, x.w.heap[q]? = some (.cells #[.int .i64 S.vol, .slice (some ⟨bl, 0, none⟩) n cl, .slice (some ⟨kb, 0, none⟩) n n, .slice (some ⟨bp, 0, none⟩) n n, .slice (some ⟨bc, 0, none⟩) m m, .map (some bm)] 89 (0, 0)) := fun x => (x.block (old hq).lt).trans hq
              clear P
              refine wp_region_aft w1.heap.size (by kernel_rfl) (by kernel_rfl) ?_
              repeat (go_big_quiet_step (first | (go_at_call 58; exact calls_aft_same (f1 _)) | (go_at_call 69; exact calls_aft_same (f3 _)) | (go_at_call 70; exact calls_aft_same (f5 _)) | (go_at_call 68; try unfold spC; first | with_reducible exact calls_aft_same (f2 _) | with_reducible exact calls_aft_same (f4 _) | with_reducible exact calls_aft_same (f6 _))))
              refine wpQuiet_nil ?_
              rintro _ ⟨x, rfl⟩
              go_wp2_with fail
              go_ret
              exact ⟨rfl, N2.out.trans (Below.chg x.below (Nat.le_refl _))⟩
  · cases b2
    · as_aux_lemma =>
        go_enter Try.func57, Try.ntmps57
        try dsimp only [List.append]
        go_upto_region 1 with fail
        generalize w.alloc (.cells (evc ⟨kd, co, li, wo, va⟩) 41) = w1 at *
        generalize w.heap.size = p at *
        have hq := P.hq
        unfold busc at hq
        have hx : ∀ x : Aft w1.heap.size w1, x.w.heap[p]? = some (.cells (evc ⟨kd, co, li, wo, va⟩) 41 (0, 0)) := fun x => (x.block (old n1).lt).trans n1
        have hy : ∀ x : Aft w1.heap.size w1, x.w.heap[q]? = some (.cells #[.int .i64 S.vol, .slice (some ⟨bl, 0, none⟩) n cl, .slice (some ⟨kb, 0, none⟩) n n, .slice (some ⟨bp, 0, none⟩) n n, .slice (some ⟨bc, 0, none⟩) m m, .map (some bm)] 89 (0, 0)) := fun x => (x.block (old hq).lt).trans hq
        clear P
        refine wp_region_aft w1.heap.size (by kernel_rfl) (by kernel_rfl) ?_
        repeat (go_big_quiet_step (first | (go_at_call 58; exact calls_aft_same (f1 _)) | (go_at_call 69; exact calls_aft_same (f3 _)) | (go_at_call 70; exact calls_aft_same (f5 _)) | (go_at_call 68; try unfold spC; first | with_reducible exact calls_aft_same (f2 _) | with_reducible exact calls_aft_same (f4 _) | with_reducible exact calls_aft_same (f6 _))))
        refine wpQuiet_nil ?_
        rintro _ ⟨x, rfl⟩
        go_wp2_with fail
        go_ret
        exact ⟨rfl, N2.out.trans (Below.chg x.below (Nat.le_refl _))⟩
    · cases b3
      · cases b5
        · as_aux_lemma =>
            go_enter Try.func57, Try.ntmps57
            try dsimp only [List.append]
            go_upto_region 1 with fail
            generalize w.alloc (.cells (evc ⟨kd, co, li, wo, va⟩) 41) = w1 at *
            generalize w.heap.size = p at *
            have hq := P.hq
            unfold busc at hq
            have hx : ∀ x : Aft w1.heap.size w1, x.w.heap[p]? = some (.cells (evc ⟨kd, co, li, wo, va⟩) 41 (0, 0)) := fun x => (x.block (old n1).lt).trans n1
            have hy : ∀ x : Aft w1.heap.size w1, x.w.heap[q]? = some (.cells #[.int .i64 S.vol, .slice (some ⟨bl, 0, none⟩) n cl, .slice (some ⟨kb, 0, none⟩) n n, .slice (some ⟨bp, 0, none⟩) n n, .slice (some ⟨bc, 0, none⟩) m m, .map (some bm)] 89 (0, 0)) := fun x => (x.block (old hq).lt).trans hq
            clear P
            refine wp_region_aft w1.heap.size (by kernel_rfl) (by kernel_rfl) ?_
            repeat (go_big_quiet_step (first | (go_at_call 58; exact calls_aft_same (f1 _)) | (go_at_call 69; exact calls_aft_same (f3 _)) | (go_at_call 70; exact calls_aft_same (f5 _)) | (go_at_call 68; try unfold spC; first | with_reducible exact calls_aft_same (f2 _) | with_reducible exact calls_aft_same (f4 _) | with_reducible exact calls_aft_same (f6 _))))
            refine wpQuiet_nil ?_
            rintro _ ⟨x, rfl⟩
            go_wp2_with fail
            go_ret
            exact ⟨rfl, N2.out.trans (Below.chg x.below (Nat.le_refl _))⟩
        · cases b6
          · as_aux_lemma =>
              go_enter Try.func57, Try.ntmps57
              try dsimp only [List.append]
              go_upto_region 1 with fail
              generalize w.alloc (.cells (evc ⟨kd, co, li, wo, va⟩) 41) = w1 at *
              generalize w.heap.size = p at *
              have hq := P.hq
              unfold busc at hq
              have hx : ∀ x : Aft w1.heap.size w1, x.w.heap[p]? = some (.cells (evc ⟨kd, co, li, wo, va⟩) 41 (0, 0)) := fun x => (x.block (old n1).lt).trans n1
              have hy : ∀ x : Aft w1.heap.size w1, x.w.heap[q]? = some (.cells #[.int .i64 S.vol, .slice (some ⟨bl, 0, none⟩) n cl, .slice (some ⟨kb, 0, none⟩) n n, .slice (some ⟨bp, 0, none⟩) n n, .slice (some ⟨bc, 0, none⟩) m m, .map (some bm)] 89 (0, 0)) := fun x => (x.block (old hq).lt).trans hq
              clear P
              refine wp_region_aft w1.heap.size (by kernel_rfl) (by kernel_rfl) ?_
              repeat (go_big_quiet_step (first | (go_at_call 58; exact calls_aft_same (f1 _)) | (go_at_call 69; exact calls_aft_same (f3 _)) | (go_at_call 70; exact calls_aft_same (f5 _)) | (go_at_call 68; try unfold spC; first | with_reducible exact calls_aft_same (f2 _) | with_reducible exact calls_aft_same (f4 _) | with_reducible exact calls_aft_same (f6 _))))
              refine wpQuiet_nil ?_
              rintro _ ⟨x, rfl⟩
              go_wp2_with fail
              go_ret
              exact ⟨rfl, N2.out.trans (Below.chg x.below (Nat.le_refl _))⟩
          · as_aux_lemma =>
              go_enter Try.func57, Try.ntmps57
              try dsimp only [List.append]
              go_upto_region 1 with fail
              generalize w.alloc (.cells (evc ⟨kd, co, li, wo, va⟩) 41) = w1 at *
              generalize w.heap.size = p at *
              have hq := P.hq
              unfold busc at hq
              have hx : ∀ x : Aft w1.heap.size w1, x.w.heap[p]? = some (.cells (evc ⟨kd, co, li, wo, va⟩) 41 (0, 0)) := fun x => (x.block (old n1).lt).trans n1
              have hy : ∀ x : Aft w1.heap.size w1, x.w.heap[q]? = some (.cells #[.int .i64 S.vol, .slice (some ⟨bl, 0, none⟩) n cl, .slice (some ⟨kb, 0, none⟩) n n, .slice (some ⟨bp, 0, none⟩) n n, .slice (some ⟨bc, 0, none⟩) m m, .map (some bm)] 89 (0, 0)) := fun x => (x.block (old hq).lt).trans hq
              clear P
              refine wp_region_aft w1.heap.size (by kernel_rfl) (by kernel_rfl) ?_
              repeat (go_big_quiet_step (first | (go_at_call 58; exact calls_aft_same (f1 _)) | (go_at_call 69; exact calls_aft_same (f3 _)) | (go_at_call 70; exact calls_aft_same (f5 _)) | (go_at_call 68; try unfold spC; first | with_reducible exact calls_aft_same (f2 _) | with_reducible exact calls_aft_same (f4 _) | with_reducible exact calls_aft_same (f6 _))))
              refine wpQuiet_nil ?_
              rintro _ ⟨x, rfl⟩
              go_wp2_with fail
              go_ret
              exact ⟨rfl, N2.out.trans (Below.chg x.below (Nat.le_refl _))⟩
      · cases b4
        · as_aux_lemma =>
            go_enter Try.func57, Try.ntmps57
            try dsimp only [List.append]
            go_upto_region 1 with fail
            generalize w.alloc (.cells (evc ⟨kd, co, li, wo, va⟩) 41) = w1 at *
            generalize w.heap.size = p at *
            have hq := P.hq
            unfold busc at hq
            have hx : ∀ x : Aft w1.heap.size w1, x.w.heap[p]? = some (.cells (evc ⟨kd, co, li, wo, va⟩) 41 (0, 0)) := fun x => (x.block (old n1).lt).trans n1
            have hy : ∀ x : Aft w1.heap.size w1, x.w.heap[q]? = some (.cells #[.int .i64 S.vol, .slice (some ⟨bl, 0, none⟩) n cl, .slice (some ⟨kb, 0, none⟩) n n, .slice (some ⟨bp, 0, none⟩) n n, .slice (some ⟨bc, 0, none⟩) m m, .map (some bm)] 89 (0, 0)) := fun x => (x.block (old hq).lt).trans hq
            clear P
            refine wp_region_aft w1.heap.size (by kernel_rfl) (by kernel_rfl) ?_
            repeat (go_big_quiet_step (first | (go_at_call 58; exact calls_aft_same (f1 _)) | (go_at_call 69; exact calls_aft_same (f3 _)) | (go_at_call 70; exact calls_aft_same (f5 _)) | (go_at_call 68; try unfold spC; first | with_reducible exact calls_aft_same (f2 _) | with_reducible exact calls_aft_same (f4 _) | with_reducible exact calls_aft_same (f6 _))))
            refine wpQuiet_nil ?_
            rintro _ ⟨x, rfl⟩
            go_wp2_with fail
            go_ret
            exact ⟨rfl, N2.out.trans (Below.chg x.below (Nat.le_refl _))⟩
        · cases b5
          · as_aux_lemma =>
              go_enter Try.func57, Try.ntmps57
              try dsimp only [List.append]
              go_upto_region 1 with fail
              generalize w.alloc (.cells (evc ⟨kd, co, li, wo, va⟩) 41) = w1 at *
              generalize w.heap.size = p at *
              have hq := P.hq
              unfold busc at hq
              have hx : ∀ x : Aft w1.heap.size w1, x.w.heap[p]? = some (.cells (evc ⟨kd, co, li, wo, va⟩) 41 (0, 0)) := fun x => (x.block (old n1).lt).trans n1
              have hy : ∀ x : Aft w1.heap.size w1, x.w.heap[q]? = some (.cells #[.int .i64 S.vol, .slice (some ⟨bl, 0, none⟩) n cl, .slice (some ⟨kb, 0, none⟩) n n, .slice (some ⟨bp, 0, none⟩) n n, .slice (some ⟨bc, 0, none⟩) m m, .map (some bm)] 89 (0, 0)) := fun x => (x.block (old hq).lt).trans hq
              clear P
              refine wp_region_aft w1.heap.size (by kernel_rfl) (by kernel_rfl) ?_
              repeat (go_big_quiet_step (first | (go_at_call 58; exact calls_aft_same (f1 _)) | (go_at_call 69; exact calls_aft_same (f3 _)) | (go_at_call 70; exact calls_aft_same (f5 _)) | (go_at_call 68; try unfold spC; first | with_reducible exact calls_aft_same (f2 _) | with_reducible exact calls_aft_same (f4 _) | with_reducible exact calls_aft_same (f6 _))))
              refine wpQuiet_nil ?_
              rintro _ ⟨x, rfl⟩
              go_wp2_with fail
              go_ret
              exact ⟨rfl, N2.out.trans (Below.chg x.below (Nat.le_refl _))⟩
          · cases b6
            · as_aux_lemma =>
                go_enter Try.func57, Try.ntmps57
                try dsimp only [List.append]
                go_upto_region 1 with fail
                generalize w.alloc (.cells (evc ⟨kd, co, li, wo, va⟩) 41) = w1 at *
                generalize w.heap.size = p at *
                have hq := P.hq
                unfold busc at hq
                have hx : ∀ x : Aft w1.heap.size w1, x.w.heap[p]? = some (.cells (evc ⟨kd, co, li, wo, va⟩) 41 (0, 0)) := fun x => (x.block (old n1).lt).trans n1
                have hy : ∀ x : Aft w1.heap.size w1, x.w.heap[q]? = some (.cells #[.int .i64 S.vol, .slice (some ⟨bl, 0, none⟩) n cl, .slice (some ⟨kb, 0, none⟩) n n, .slice (some ⟨bp, 0, none⟩) n n, .slice (some ⟨bc, 0, none⟩) m m, .map (some bm)] 89 (0, 0)) := fun x => (x.block (old hq).lt).trans hq
                clear P
                refine wp_region_aft w1.heap.size (by kernel_rfl) (by kernel_rfl) ?_
                repeat (go_big_quiet_step (first | (go_at_call 58; exact calls_aft_same (f1 _)) | (go_at_call 69; exact calls_aft_same (f3 _)) | (go_at_call 70; exact calls_aft_same (f5 _)) | (go_at_call 68; try unfold spC; first | with_reducible exact calls_aft_same (f2 _) | with_reducible exact calls_aft_same (f4 _) | with_reducible exact calls_aft_same (f6 _))))
                refine wpQuiet_nil ?_
                rintro _ ⟨x, rfl⟩
                go_wp2_with fail
                go_ret
                exact ⟨rfl, N2.out.trans (Below.chg x.below (Nat.le_refl _))⟩
            · as_aux_lemma =>
                go_enter Try.func57, Try.ntmps57
                try dsimp only [List.append]
                go_upto_region 1 with fail
                generalize w.alloc (.cells (evc ⟨kd, co, li, wo, va⟩) 41) = w1 at *
                generalize w.heap.size = p at *
                have hq := P.hq
                unfold busc at hq
                have hx : ∀ x : Aft w1.heap.size w1, x.w.heap[p]? = some (.cells (evc ⟨kd, co, li, wo, va⟩) 41 (0, 0)) := fun x => (x.block (old n1).lt).trans n1
                have hy : ∀ x : Aft w1.heap.size w1, x.w.heap[q]? = some (.cells #[.int .i64 S.vol, .slice (some ⟨bl, 0, none⟩) n cl, .slice (some ⟨kb, 0, none⟩) n n, .slice (some ⟨bp, 0, none⟩) n n, .slice (some ⟨bc, 0, none⟩) m m, .map (some bm)] 89 (0, 0)) := fun x => (x.block (old hq).lt).trans hq
                clear P
                refine wp_region_aft w1.heap.size (by kernel_rfl) (by kernel_rfl) ?_
                repeat (go_big_quiet_step (first | (go_at_call 58; exact calls_aft_same (f1 _)) | (go_at_call 69; exact calls_aft_same (f3 _)) | (go_at_call 70; exact calls_aft_same (f5 _)) | (go_at_call 68; try unfold spC; first | with_reducible exact calls_aft_same (f2 _) | with_reducible exact calls_aft_same (f4 _) | with_reducible exact calls_aft_same (f6 _))))
                refine wpQuiet_nil ?_
                rintro _ ⟨x, rfl⟩
                go_wp2_with fail
                go_ret
                exact ⟨rfl, N2.out.trans (Below.chg x.below (Nat.le_refl _))⟩
end
end Go.Proofs.Ytnocekhgabgffaa
