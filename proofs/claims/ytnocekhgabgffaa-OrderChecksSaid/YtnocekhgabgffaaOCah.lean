/- Texts of the walk, one behind the other: Buo Bue Buf Bug Buh Bui Buj. No condition. -/
import Derived.Test.YtnocekhgabgffaaOCae
section
namespace Go.Proofs.Ytnocekhgabgffaa
open Go.RowKit
set_option linter.unusedVariables false
set_option maxHeartbeats 1000000

set_option maxRecDepth 100000
attribute [local go_sem ↓] append_appS copy_copS clear_clrS make_mkS slice_slS lookup_lookS mput_mputS del_mdelS cell_row frozen_row heap_drew heap_drewN heap_alloc heap_past heap_setCell heap_putRow heap_setB loadEv storeEv loadBe storeBe loadSp storeSp loadNw storeNw loadLine storeLine evc_kd evc_co evc_li evc_wo evc_va bec_fl bec_li bec_wo bec_va nwC_0 nwC_1 spC_0 spC_1
attribute [local go_sem] rowCell_some rowFrozen_some rowHas_some rowIn_some rowPart_full rowPart_lit rowPut_full rowPut_lit rowSet_some size_putRow size_setB run_loadS run_storeS run_appS run_copS run_clrS run_mkS run_slS run_lookS run_mputS run_mdelS loadW_at storeW_at fit_all fit_le one_int one_bool one_pointer one_slice allOne_list putRow_new ne_size1 ne_size2 ne_size3 ne_size4 wideEv wideBe wideSp wideNw wideLine evc_size evc_one evc_ne evc_lit evc_z fold_evc bec_size bec_one bec_lit bec_ne bec_at bec_in spC_size spC_one nwC_size nwC_one nwC_ne nwC_set0 nwC_set1 nwC_lit bec_set0 bec_set1 bec_set2 bec_set3 spC_set0 spC_set1 spC_lit fold_spC spC_ne fold_nwC fold_bec fold_at vs_size vs_one ic_size ic_get
attribute [local simp ↓] heap_drew heap_drewN heap_alloc heap_past heap_setCell heap_putRow heap_setB
attribute [local simp] rowCell_some rowFrozen_some rowHas_some rowIn_some rowPart_full rowPart_lit rowPut_full rowPut_lit rowSet_some size_putRow size_setB fit_all putRow_new ne_size1 ne_size2 ne_size3 ne_size4 evc_size bec_size spC_size nwC_size vs_size fit_le
section
variable {n m : Nat} {w : World} {q : Nat} {F : List Nat} {S : Bs}
set_option maxHeartbeats 30000000 in
theorem has_ev (h : BusM n m w q F S) {N : Nat} (ok : S.Ok n m N) (kd co li wo va : Int) : Calls Try.prog 57 #[.pointer (some ⟨q, 0, none⟩), .agg (evc ⟨kd, co, li, wo, va⟩)] w fun r w' => r = .returned (.bool (hasB S ⟨kd, co, li, wo, va⟩)) ∧ Chg [] w w' := by
  obtain ⟨bl, cl, kb, bp, bc, bm, xs, G, P0⟩ := h
  obtain ⟨n1, n2⟩ := one_new w (.cells (evc ⟨kd, co, li, wo, va⟩) 41)
  have P := P0.keep n2 (by simp)
  have N2 := Lib.hid n2
  have f1 := fun w => namesc_any kd w
  have f2 := fun w => isof_any co m w
  have f3 := fun w => namesl_any kd w
  have f4 := fun w => isof_any li n w
  have f5 := fun w => namesw_any kd w
  have f6 := fun w => isof_any wo 8 w
  have eh : hasB S ⟨kd, co, li, wo, va⟩ = ((!namesC kd || isOfB co m) && (!namesL kd || isOfB li n) && (!namesW kd || isOfB wo 8)) := by
    unfold hasB; rw [ok.cs, ok.ps]
  rw [eh]
  generalize namesC kd = b1 at *
  generalize isOfB co m = b2 at *
  generalize namesL kd = b3 at *
  generalize isOfB li n = b4 at *
  generalize namesW kd = b5 at *
  generalize isOfB wo 8 = b6 at *
  clear n2 P0 eh ok
  cases b1
  · cases b3
    · cases b5
      · as_aux_lemma =>
          go_enter Try.func57, Try.ntmps57
          try dsimp only [List.append]
          go_upto_region 1 with fail
          generalize w.alloc (.cells (evc ⟨kd, co, li, wo, va⟩) 41) = w1 at *
          generalize w.heap.size = p at *
          have hq := P.hq
          unfold busc at hq
          have hx : ∀ x : Aft w1.heap.size w1, x.w.heap[p]? = some (.cells (evc ⟨kd, co, li, wo, va⟩) 41 (0, 0)) := fun x => (x.block (old n1).lt).trans n1
          have hy : ∀ x : Aft w1.heap.size w1, x.w.heap[q]? = some (.cells #[.int .i64 S.vol, .slice (some ⟨bl, 0, none⟩) n cl, .slice (some ⟨kb, 0, none⟩) n n, .slice (some ⟨bp, 0, none⟩) n n, .slice (some ⟨bc, 0, none⟩) m m, .map (some bm)] 89 (0, 0)) := fun x => (x.block (old hq).lt).trans hq
          clear P
          refine wp_region_aft w1.heap.size (by kernel_rfl) (by kernel_rfl) ?_
          repeat (go_big_quiet_step (first | (go_at_call 58; exact calls_aft_same (f1 _)) | (go_at_call 69; exact calls_aft_same (f3 _)) | (go_at_call 70; exact calls_aft_same (f5 _)) | (go_at_call 68; try unfold spC; first | with_reducible exact calls_aft_same (f2 _) | with_reducible exact calls_aft_same (f4 _) | with_reducible exact calls_aft_same (f6 _))))
          refine wpQuiet_nil ?_
          rintro _ ⟨x, rfl⟩
          go_wp2_with fail
          go_ret
          exact ⟨rfl, N2.out.trans (Below.chg x.below (Nat.le_refl _))⟩
      · cases b6
        · as_aux_lemma =>
            go_enter Try.func57, Try.ntmps57
            try dsimp only [List.append]
            go_upto_region 1 with fail
            generalize w.alloc (.cells (evc ⟨kd, co, li, wo, va⟩) 41) = w1 at *
            generalize w.heap.size = p at *
            have hq := P.hq
            unfold busc at hq
            have hx : ∀ x : Aft w1.heap.size w1, x.w.heap[p]? = some (.cells (evc ⟨kd, co, li, wo, va⟩) 41 (0, 0)) := fun x => (x.block (old n1).lt).trans n1
            have hy : ∀ x : Aft w1.heap.size w1, x.w.heap[q]? = some (.cells #[.int .i64 S.vol, .slice (some ⟨bl, 0, none⟩) n cl, .slice (some ⟨kb, 0, none⟩) n n, .slice (some ⟨bp, 0, none⟩) n n, .slice (some ⟨bc, 0, none⟩) m m, .map (some bm)] 89 (0, 0)) := fun x => (x.block (old hq).lt).trans hq
            clear P
            refine wp_region_aft w1.heap.size (by kernel_rfl) (by kernel_rfl) ?_
            repeat (go_big_quiet_step (first | (go_at_call 58; exact calls_aft_same (f1 _)) | (go_at_call 69; exact calls_aft_same (f3 _)) | (go_at_call 70; exact calls_aft_same (f5 _)) | (go_at_call 68; try unfold spC; first | with_reducible exact calls_aft_same (f2 _) | with_reducible exact calls_aft_same (f4 _) | with_reducible exact calls_aft_same (f6 _))))
            refine wpQuiet_nil ?_
            rintro _ ⟨x, rfl⟩
            go_wp2_with fail
            go_ret
            exact ⟨rfl, N2.out.trans (Below.chg x.below (Nat.le_refl _))⟩
        · as_aux_lemma =>
            go_enter Try.func57, Try.ntmps57
            try dsimp only [List.append]
            go_upto_region 1 with fail
            generalize w.alloc (.cells (evc ⟨kd, co, li, wo, va⟩) 41) = w1 at *
            generalize w.heap.size = p at *
            have hq := P.hq
            unfold busc at hq
            have hx : ∀ x : Aft w1.heap.size w1, x.w.heap[p]? = some (.cells (evc ⟨kd, co, li, wo, va⟩) 41 (0, 0)) := fun x => (x.block (old n1).lt).trans n1
            have hy : ∀ x : Aft w1.heap.size w1, x.w.heap[q]? = some (.cells #[.int .i64 S.vol, .slice (some ⟨bl, 0, none⟩) n cl, .slice (some ⟨kb, 0, none⟩) n n, .slice (some ⟨bp, 0, none⟩) n n, .slice (some ⟨bc, 0, none⟩) m m, .map (some bm)] 89 (0, 0)) := fun x => (x.block (old hq).lt).trans hq
            clear P
            refine wp_region_aft w1.heap.size (by kernel_rfl) (by kernel_rfl) ?_
            repeat (go_big_quiet_step (first | (go_at_call 58; exact calls_aft_same (f1 _)) | (go_at_call 69; exact calls_aft_same (f3 _)) | (go_at_call 70; exact calls_aft_same (f5 _)) | (go_at_call 68; try unfold spC; first | with_reducible exact calls_aft_same (f2 _) | with_reducible exact calls_aft_same (f4 _) | with_reducible exact calls_aft_same (f6 _))))
            refine wpQuiet_nil ?_
            rintro _ ⟨x, rfl⟩
            go_wp2_with fail
            go_ret
            exact ⟨rfl, N2.out.trans (Below.chg x.below (Nat.le_refl _))⟩
    · cases b4
      · as_aux_lemma =>
          go_enter Try.func57, Try.ntmps57
          try dsimp only [List.append]
          go_upto_region 1 with fail
          generalize w.alloc (.cells (evc ⟨kd, co, li, wo, va⟩) 41) = w1 at *
          generalize w.heap.size = p at *
          have hq := P.hq
          unfold busc at hq
          have hx : ∀ x : Aft w1.heap.size w1, x.w.heap[p]? = some (.cells (evc ⟨kd, co, li, wo, va⟩) 41 (0, 0)) := fun x => (x.block (old n1).lt).trans n1
          have hy : ∀ x : Aft w1.heap.size w1, x.w.heap[q]? = some (.cells #[.int .i64 S.vol, .slice (some ⟨bl, 0, none⟩) n cl, .slice (some ⟨kb, 0, none⟩) n n, .slice (some ⟨bp, 0, none⟩) n n, .slice (some ⟨bc, 0, none⟩) m m, .map (some bm)] 89 (0, 0)) := fun x => (x.block (old hq).lt).trans hq
          clear P
          refine wp_region_aft w1.heap.size (by kernel_rfl) (by kernel_rfl) ?_
          repeat (go_big_quiet_step (first | (go_at_call 58; exact calls_aft_same (f1 _)) | (go_at_call 69; exact calls_aft_same (f3 _)) | (go_at_call 70; exact calls_aft_same (f5 _)) | (go_at_call 68; try unfold spC; first | with_reducible exact calls_aft_same (f2 _) | with_reducible exact calls_aft_same (f4 _) | with_reducible exact calls_aft_same (f6 _))))
          refine wpQuiet_nil ?_
          rintro _ ⟨x, rfl⟩
          go_wp2_with fail
          go_ret
          exact ⟨rfl, N2.out.trans (Below.chg x.below (Nat.le_refl _))⟩
      · cases b5
        · as_aux_lemma =>
            go_enter Try.func57, Try.ntmps57
            try dsimp only [List.append]
            go_upto_region 1 with fail
            generalize w.alloc (.cells (evc ⟨kd, co, li, wo, va⟩) 41) = w1 at *
            generalize w.heap.size = p at *
            have hq := P.hq
            unfold busc at hq
            have hx : ∀ x : Aft w1.heap.size w1, x.w.heap[p]? = some (.cells (evc ⟨kd, co, li, wo, va⟩) 41 (0, 0)) := fun x => (x.block (old n1).lt).trans n1
            have hy : ∀ x : Aft w1.heap.size w1, x.w.heap[q]? = some (.cells #[.int .i64 S.vol, .slice (some ⟨bl, 0, none⟩) n cl, .slice (some ⟨kb, 0, none⟩) n n, .slice (some ⟨bp, 0, none⟩) n n, .slice (some ⟨bc, 0, none⟩) m m, .map (some bm)] 89 (0, 0)) := fun x => (x.block (old hq).lt).trans hq
            clear P
            refine wp_region_aft w1.heap.size (by kernel_rfl) (by kernel_rfl) ?_
            repeat (go_big_quiet_step (first | (go_at_call 58; exact calls_aft_same (f1 _)) | (go_at_call 69; exact calls_aft_same (f3 _)) | (go_at_call 70; exact calls_aft_same (f5 _)) | (go_at_call 68; try unfold spC; first | with_reducible exact calls_aft_same (f2 _) | with_reducible exact calls_aft_same (f4 _) | with_reducible exact calls_aft_same (f6 _))))
            refine wpQuiet_nil ?_
            rintro _ ⟨x, rfl⟩
            go_wp2_with fail
            go_ret
            exact ⟨rfl, N2.out.trans (Below.chg x.below (Nat.le_refl _))⟩
        · cases b6
          · as_aux_lemma =>
              go_enter Try.func57, Try.ntmps57
              try dsimp only [List.append]
              go_upto_region 1 with fail
              generalize w.alloc (.cells (evc ⟨kd, co, li, wo, va⟩) 41) = w1 at *
              generalize w.heap.size = p at *
              have hq := P.hq
              unfold busc at hq
              have hx : ∀ x : Aft w1.heap.size w1, x.w.heap[p]? = some (.cells (evc ⟨kd, co, li, wo, va⟩) 41 (0, 0)) := fun x => (x.block (old n1).lt).trans n1
              have hy : ∀ x : Aft w1.heap.size w1, x.w.heap[q]? = some (.cells #[.int .i64 S.vol, .slice (some ⟨bl, 0, none⟩) n cl, .slice (some ⟨kb, 0, none⟩) n n, .slice (some ⟨bp, 0, none⟩) n n, .slice (some ⟨bc, 0, none⟩) m m, .map (some bm)] 89 (0, 0)) := fun x => (x.block (old hq).lt).trans hq
              clear P
              refine wp_region_aft w1.heap.size (by kernel_rfl) (by kernel_rfl) ?_
              repeat (go_big_quiet_step (first | (go_at_call 58; exact calls_aft_same (f1 _)) | (go_at_call 69; exact calls_aft_same (f3 _)) | (go_at_call 70; exact calls_aft_same (f5 _)) | (go_at_call 68; try unfold spC; first | with_reducible exact calls_aft_same (f2 _) | with_reducible exact calls_aft_same (f4 _) | with_reducible exact calls_aft_same (f6 _))))
              refine wpQuiet_nil ?_
              rintro _ ⟨x, rfl⟩
              go_wp2_with fail
              go_ret
              exact ⟨rfl, N2.out.trans (Below.chg x.below (Nat.le_refl _))⟩
          · as_aux_lemma =>
              go_enter Try.func57, Try.ntmps57
              try dsimp only [List.append]
              go_upto_region 1 with fail
              generalize w.alloc (.cells (evc ⟨kd, co, li, wo, va⟩) 41) = w1 at *
              generalize w.heap.size = p at *
              have hq := P.hq
              unfold busc at hq
              have hx : ∀ x : Aft w1.heap.size w1, x.w.heap[p]? = some (.cells (evc ⟨kd, co, li, wo, va⟩) 41 (0, 0)) := fun x => (x.block (old n1).lt).trans n1
              have hy : ∀ x : Aft w1.heap.size w1, x.w.heap[q]? = some (.cells #[.int .i64 S.vol, .slice (some ⟨bl, 0, none⟩) n cl, .slice (some ⟨kb, 0, none⟩) n n, .slice (some ⟨bp, 0, none⟩) n n, .slice (some ⟨bc, 0, none⟩) m m, .map (some bm)] 89 (0, 0)) := fun x => (x.block (old hq).lt).trans hq
              clear P
              refine wp_region_aft w1.heap.size (by kernel_rfl) (by kernel_rfl) ?_
              repeat (go_big_quiet_step (first | (go_at_call 58; exact calls_aft_same (f1 _)) | (go_at_call 69; exact calls_aft_same (f3 _)) | (go_at_call 70; exact calls_aft_same (f5 _)) | (go_at_call 68; try unfold spC; first | with_reducible exact calls_aft_same (f2 _) | with_reducible exact calls_aft_same (f4 _) | with_reducible exact calls_aft_same (f6 _))))
              refine wpQuiet_nil ?_
              rintro _ ⟨x, rfl⟩
              go_wp2_with fail
              go_ret
              exact ⟨rfl, N2.out.trans (Below.chg x.below (Nat.le_refl _))⟩
  · cases b2
    · as_aux_lemma =>
        go_enter Try.func57, Try.ntmps57
        try dsimp only [List.append]
        go_upto_region 1 with fail
        generalize w.alloc (.cells (evc ⟨kd, co, li, wo, va⟩) 41) = w1 at *
        generalize w.heap.size = p at *
        have hq := P.hq
        unfold busc at hq
        have hx : ∀ x : Aft w1.heap.size w1, x.w.heap[p]? = some (.cells (evc ⟨kd, co, li, wo, va⟩) 41 (0, 0)) := fun x => (x.block (old n1).lt).trans n1
        have hy : ∀ x : Aft w1.heap.size w1, x.w.heap[q]? = some (.cells #[.int .i64 S.vol, .slice (some ⟨bl, 0, none⟩) n cl, .slice (some ⟨kb, 0, none⟩) n n, .slice (some ⟨bp, 0, none⟩) n n, .slice (some ⟨bc, 0, none⟩) m m, .map (some bm)] 89 (0, 0)) := fun x => (x.block (old hq).lt).trans hq
        clear P
        refine wp_region_aft w1.heap.size (by kernel_rfl) (by kernel_rfl) ?_
        repeat (go_big_quiet_step (first | (go_at_call 58; exact calls_aft_same (f1 _)) | (go_at_call 69; exact calls_aft_same (f3 _)) | (go_at_call 70; exact calls_aft_same (f5 _)) | (go_at_call 68; try unfold spC; first | with_reducible exact calls_aft_same (f2 _) | with_reducible exact calls_aft_same (f4 _) | with_reducible exact calls_aft_same (f6 _))))
        refine wpQuiet_nil ?_
        rintro _ ⟨x, rfl⟩
        go_wp2_with fail
        go_ret
        exact ⟨rfl, N2.out.trans (Below.chg x.below (Nat.le_refl _))⟩
    · cases b3
      · cases b5
        · as_aux_lemma =>
            go_enter Try.func57, Try.ntmps57
            try dsimp only [List.append]
            go_upto_region 1 with fail
            generalize w.alloc (.cells (evc ⟨kd, co, li, wo, va⟩) 41) = w1 at *
            generalize w.heap.size = p at *
            have hq := P.hq
            unfold busc at hq
            have hx : ∀ x : Aft w1.heap.size w1, x.w.heap[p]? = some (.cells (evc ⟨kd, co, li, wo, va⟩) 41 (0, 0)) := fun x => (x.block (old n1).lt).trans n1
            have hy : ∀ x : Aft w1.heap.size w1, x.w.heap[q]? = some (.cells #[.int .i64 S.vol, .slice (some ⟨bl, 0, none⟩) n cl, .slice (some ⟨kb, 0, none⟩) n n, .slice (some ⟨bp, 0, none⟩) n n, .slice (some ⟨bc, 0, none⟩) m m, .map (some bm)] 89 (0, 0)) := fun x => (x.block (old hq).lt).trans hq
            clear P
            refine wp_region_aft w1.heap.size (by kernel_rfl) (by kernel_rfl) ?_
            repeat (go_big_quiet_step (first | (go_at_call 58; exact calls_aft_same (f1 _)) | (go_at_call 69; exact calls_aft_same (f3 _)) | (go_at_call 70; exact calls_aft_same (f5 _)) | (go_at_call 68; try unfold spC; first | with_reducible exact calls_aft_same (f2 _) | with_reducible exact calls_aft_same (f4 _) | with_reducible exact calls_aft_same (f6 _))))
            refine wpQuiet_nil ?_
            rintro _ ⟨x, rfl⟩
            go_wp2_with fail
            go_ret
            exact ⟨rfl, N2.out.trans (Below.chg x.below (Nat.le_refl _))⟩
        · cases b6
          · as_aux_lemma =>
              go_enter Try.func57, Try.ntmps57
              try dsimp only [List.append]
              go_upto_region 1 with fail
              generalize w.alloc (.cells (evc ⟨kd, co, li, wo, va⟩) 41) = w1 at *
              generalize w.heap.size = p at *
              have hq := P.hq
              unfold busc at hq
              have hx : ∀ x : Aft w1.heap.size w1, x.w.heap[p]? = some (.cells (evc ⟨kd, co, li, wo, va⟩) 41 (0, 0)) := fun x => (x.block (old n1).lt).trans n1
              have hy : ∀ x : Aft w1.heap.size w1, x.w.heap[q]? = some (.cells #[.int .i64 S.vol, .slice (some ⟨bl, 0, none⟩) n cl, .slice (some ⟨kb, 0, none⟩) n n, .slice (some ⟨bp, 0, none⟩) n n, .slice (some ⟨bc, 0, none⟩) m m, .map (some bm)] 89 (0, 0)) := fun x => (x.block (old hq).lt).trans hq
              clear P
              refine wp_region_aft w1.heap.size (by kernel_rfl) (by kernel_rfl) ?_
              repeat (go_big_quiet_step (first | (go_at_call 58; exact calls_aft_same (f1 _)) | (go_at_call 69; exact calls_aft_same (f3 _)) | (go_at_call 70; exact calls_aft_same (f5 _)) | (go_at_call 68; try unfold spC; first | with_reducible exact calls_aft_same (f2 _) | with_reducible exact calls_aft_same (f4 _) | with_reducible exact calls_aft_same (f6 _))))
              refine wpQuiet_nil ?_
              rintro _ ⟨x, rfl⟩
              go_wp2_with fail
              go_ret
              exact ⟨rfl, N2.out.trans (Below.chg x.below (Nat.le_refl _))⟩
          · as_aux_lemma =>
              go_enter Try.func57, Try.ntmps57
              try dsimp only [List.append]
              go_upto_region 1 with fail
              generalize w.alloc (.cells (evc ⟨kd, co, li, wo, va⟩) 41) = w1 at *
              generalize w.heap.size = p at *
              have hq := P.hq
              unfold busc at hq
              have hx : ∀ x : Aft w1.heap.size w1, x.w.heap[p]? = some (.cells (evc ⟨kd, co, li, wo, va⟩) 41 (0, 0)) := fun x => (x.block (old n1).lt).trans n1
              have hy : ∀ x : Aft w1.heap.size w1, x.w.heap[q]? = some (.cells #[.int .i64 S.vol, .slice (some ⟨bl, 0, none⟩) n cl, .slice (some ⟨kb, 0, none⟩) n n, .slice (some ⟨bp, 0, none⟩) n n, .slice (some ⟨bc, 0, none⟩) m m, .map (some bm)] 89 (0, 0)) := fun x => (x.block (old hq).lt).trans hq
              clear P
              refine wp_region_aft w1.heap.size (by kernel_rfl) (by kernel_rfl) ?_
              repeat (go_big_quiet_step (first | (go_at_call 58; exact calls_aft_same (f1 _)) | (go_at_call 69; exact calls_aft_same (f3 _)) | (go_at_call 70; exact calls_aft_same (f5 _)) | (go_at_call 68; try unfold spC; first | with_reducible exact calls_aft_same (f2 _) | with_reducible exact calls_aft_same (f4 _) | with_reducible exact calls_aft_same (f6 _))))
              refine wpQuiet_nil ?_
              rintro _ ⟨x, rfl⟩
              go_wp2_with fail
              go_ret
              exact ⟨rfl, N2.out.trans (Below.chg x.below (Nat.le_refl _))⟩
      · cases b4
        · as_aux_lemma =>
            go_enter Try.func57, Try.ntmps57
            try dsimp only [List.append]
            go_upto_region 1 with fail
            generalize w.alloc (.cells (evc ⟨kd, co, li, wo, va⟩) 41) = w1 at *
            generalize w.heap.size = p at *
            have hq := P.hq
            unfold busc at hq
            have hx : ∀ x : Aft w1.heap.size w1, x.w.heap[p]? = some (.cells (evc ⟨kd, co, li, wo, va⟩) 41 (0, 0)) := fun x => (x.block (old n1).lt).trans n1
            have hy : ∀ x : Aft w1.heap.size w1, x.w.heap[q]? = some (.cells #[.int .i64 S.vol, .slice (some ⟨bl, 0, none⟩) n cl, .slice (some ⟨kb, 0, none⟩) n n, .slice (some ⟨bp, 0, none⟩) n n, .slice (some ⟨bc, 0, none⟩) m m, .map (some bm)] 89 (0, 0)) := fun x => (x.block (old hq).lt).trans hq
            clear P
            refine wp_region_aft w1.heap.size (by kernel_rfl) (by kernel_rfl) ?_
            repeat (go_big_quiet_step (first | (go_at_call 58; exact calls_aft_same (f1 _)) | (go_at_call 69; exact calls_aft_same (f3 _)) | (go_at_call 70; exact calls_aft_same (f5 _)) | (go_at_call 68; try unfold spC; first | with_reducible exact calls_aft_same (f2 _) | with_reducible exact calls_aft_same (f4 _) | with_reducible exact calls_aft_same (f6 _))))
            refine wpQuiet_nil ?_
            rintro _ ⟨x, rfl⟩
            go_wp2_with fail
            go_ret
            exact ⟨rfl, N2.out.trans (Below.chg x.below (Nat.le_refl _))⟩
        · cases b5
          · as_aux_lemma =>
              go_enter Try.func57, Try.ntmps57
              try dsimp only [List.append]
              go_upto_region 1 with fail
              generalize w.alloc (.cells (evc ⟨kd, co, li, wo, va⟩) 41) = w1 at *
              generalize w.heap.size = p at *
              have hq := P.hq
              unfold busc at hq
              have hx : ∀ x : Aft w1.heap.size w1, x.w.heap[p]? = some (.cells (evc ⟨kd, co, li, wo, va⟩) 41 (0, 0)) := fun x => (x.block (old n1).lt).trans n1
              have hy : ∀ x : Aft w1.heap.size w1, x.w.heap[q]? = some (.cells #[.int .i64 S.vol, .slice (some ⟨bl, 0, none⟩) n cl, .slice (some ⟨kb, 0, none⟩) n n, .slice (some ⟨bp, 0, none⟩) n n, .slice (some ⟨bc, 0, none⟩) m m, .map (some bm)] 89 (0, 0)) := fun x => (x.block (old hq).lt).trans hq
              clear P
              refine wp_region_aft w1.heap.size (by kernel_rfl) (by kernel_rfl) ?_
              repeat (go_big_quiet_step (first | (go_at_call 58; exact calls_aft_same (f1 _)) | (go_at_call 69; exact calls_aft_same (f3 _)) | (go_at_call 70; exact calls_aft_same (f5 _)) | (go_at_call 68; try unfold spC; first | with_reducible exact calls_aft_same (f2 _) | with_reducible exact calls_aft_same (f4 _) | with_reducible exact calls_aft_same (f6 _))))
              refine wpQuiet_nil ?_
              rintro _ ⟨x, rfl⟩
              go_wp2_with fail
              go_ret
              exact ⟨rfl, N2.out.trans (Below.chg x.below (Nat.le_refl _))⟩
          · cases b6
            · as_aux_lemma =>
                go_enter Try.func57, Try.ntmps57
                try dsimp only [List.append]
                go_upto_region 1 with fail
                generalize w.alloc (.cells (evc ⟨kd, co, li, wo, va⟩) 41) = w1 at *
                generalize w.heap.size = p at *
                have hq := P.hq
                unfold busc at hq
                have hx : ∀ x : Aft w1.heap.size w1, x.w.heap[p]? = some (.cells (evc ⟨kd, co, li, wo, va⟩) 41 (0, 0)) := fun x => (x.block (old n1).lt).trans n1
                have hy : ∀ x : Aft w1.heap.size w1, x.w.heap[q]? = some (.cells #[.int .i64 S.vol, .slice (some ⟨bl, 0, none⟩) n cl, .slice (some ⟨kb, 0, none⟩) n n, .slice (some ⟨bp, 0, none⟩) n n, .slice (some ⟨bc, 0, none⟩) m m, .map (some bm)] 89 (0, 0)) := fun x => (x.block (old hq).lt).trans hq
                clear P
                refine wp_region_aft w1.heap.size (by kernel_rfl) (by kernel_rfl) ?_
                repeat (go_big_quiet_step (first | (go_at_call 58; exact calls_aft_same (f1 _)) | (go_at_call 69; exact calls_aft_same (f3 _)) | (go_at_call 70; exact calls_aft_same (f5 _)) | (go_at_call 68; try unfold spC; first | with_reducible exact calls_aft_same (f2 _) | with_reducible exact calls_aft_same (f4 _) | with_reducible exact calls_aft_same (f6 _))))
                refine wpQuiet_nil ?_
                rintro _ ⟨x, rfl⟩
                go_wp2_with fail
                go_ret
                exact ⟨rfl, N2.out.trans (Below.chg x.below (Nat.le_refl _))⟩
            · as_aux_lemma =>
                go_enter Try.func57, Try.ntmps57
                try dsimp only [List.append]
                go_upto_region 1 with fail
                generalize w.alloc (.cells (evc ⟨kd, co, li, wo, va⟩) 41) = w1 at *
                generalize w.heap.size = p at *
                have hq := P.hq
                unfold busc at hq
                have hx : ∀ x : Aft w1.heap.size w1, x.w.heap[p]? = some (.cells (evc ⟨kd, co, li, wo, va⟩) 41 (0, 0)) := fun x => (x.block (old n1).lt).trans n1
                have hy : ∀ x : Aft w1.heap.size w1, x.w.heap[q]? = some (.cells #[.int .i64 S.vol, .slice (some ⟨bl, 0, none⟩) n cl, .slice (some ⟨kb, 0, none⟩) n n, .slice (some ⟨bp, 0, none⟩) n n, .slice (some ⟨bc, 0, none⟩) m m, .map (some bm)] 89 (0, 0)) := fun x => (x.block (old hq).lt).trans hq
                clear P
                refine wp_region_aft w1.heap.size (by kernel_rfl) (by kernel_rfl) ?_
                repeat (go_big_quiet_step (first | (go_at_call 58; exact calls_aft_same (f1 _)) | (go_at_call 69; exact calls_aft_same (f3 _)) | (go_at_call 70; exact calls_aft_same (f5 _)) | (go_at_call 68; try unfold spC; first | with_reducible exact calls_aft_same (f2 _) | with_reducible exact calls_aft_same (f4 _) | with_reducible exact calls_aft_same (f6 _))))
                refine wpQuiet_nil ?_
                rintro _ ⟨x, rfl⟩
                go_wp2_with fail
                go_ret
                exact ⟨rfl, N2.out.trans (Below.chg x.below (Nat.le_refl _))⟩
end
end Go.Proofs.Ytnocekhgabgffaa
end
section
namespace Go.Proofs.Ytnocekhgabgffaa
open Go.RowKit
set_option linter.unusedVariables false
set_option maxHeartbeats 1000000

set_option maxRecDepth 100000
attribute [local go_sem ↓] append_appS copy_copS clear_clrS make_mkS slice_slS lookup_lookS mput_mputS del_mdelS cell_row frozen_row heap_drew heap_drewN heap_alloc heap_past heap_setCell heap_putRow heap_setB loadEv storeEv loadBe storeBe loadSp storeSp loadNw storeNw loadLine storeLine evc_kd evc_co evc_li evc_wo evc_va bec_fl bec_li bec_wo bec_va nwC_0 nwC_1 spC_0 spC_1
attribute [local go_sem] rowCell_some rowFrozen_some rowHas_some rowIn_some rowPart_full rowPart_lit rowPut_full rowPut_lit rowSet_some size_putRow size_setB run_loadS run_storeS run_appS run_copS run_clrS run_mkS run_slS run_lookS run_mputS run_mdelS loadW_at storeW_at fit_all fit_le one_int one_bool one_pointer one_slice allOne_list putRow_new ne_size1 ne_size2 ne_size3 ne_size4 wideEv wideBe wideSp wideNw wideLine evc_size evc_one evc_ne evc_lit evc_z fold_evc bec_size bec_one bec_lit bec_ne bec_at bec_in spC_size spC_one nwC_size nwC_one nwC_ne nwC_set0 nwC_set1 nwC_lit bec_set0 bec_set1 bec_set2 bec_set3 spC_set0 spC_set1 spC_lit fold_spC spC_ne fold_nwC fold_bec fold_at vs_size vs_one ic_size ic_get
attribute [local simp ↓] heap_drew heap_drewN heap_alloc heap_past heap_setCell heap_putRow heap_setB
attribute [local simp] rowCell_some rowFrozen_some rowHas_some rowIn_some rowPart_full rowPart_lit rowPut_full rowPut_lit rowSet_some size_putRow size_setB fit_all putRow_new ne_size1 ne_size2 ne_size3 ne_size4 evc_size bec_size spC_size nwC_size vs_size fit_le
section
variable {n m : Nat} {w : World} {q : Nat} {F : List Nat} {S : Bs}
theorem tell_ev (h : BusM n m w q F S) {i : Nat} (hi : i < m) (kd li wo va : Int) : Calls Try.prog 51 #[.pointer (some ⟨q, 0, none⟩), .agg (evc ⟨kd, i, li, wo, va⟩)] w fun r w' => r = .returned (.bool (!(S.core i).st)) ∧ Chg [] w w' := by
  obtain ⟨bl, cl, kb, bp, bc, bm, xs, G, P0⟩ := h
  obtain ⟨n1, n2⟩ := one_new w (.cells (evc ⟨kd, i, li, wo, va⟩) 41)
  have P := P0.keep n2 (by simp)
  have hpF : ∀ z ∈ F, z ≠ w.heap.size := fun z hz e => by have := P0.old z hz; omega
  have N2 := Lib.hid n2
  clear n2 P0
  go_enter Try.func51, Try.ntmps51
  go_upto_region 1 with fail
  generalize w.alloc (.cells (evc ⟨kd, i, li, wo, va⟩) 41) = w1 at *
  generalize w.heap.size = p at *
  have hq := P.hq
  unfold busc at hq
  obtain ⟨x, g, hco, hg, hcs⟩ := P.core hi
  have hcb := hco.hb
  obtain ⟨c0, c1, c2, c3, c4, c5, c6, c7, c8⟩ := cx_cells hco.hx
  rw [hco.co.st] at c3
  have i0 : (0 : Int) ≤ (i : Int) := by omega
  have i1 : (i : Int) < (m : Int) := by omega
  generalize hst : (S.core i).st = st at *
  have HST := Lib.hid hst
  clear P hco hcs hi hst
  go_quiet (fail)
  go_wp2_with fail
  go_ret
  rw [HST.out]
  exact ⟨rfl, N2.out.drewN _⟩
theorem fence_ev (h : BusM n m w q F S) {i : Nat} (hi : i < m) (kd li wo va : Int) : Calls Try.prog 50 #[.pointer (some ⟨q, 0, none⟩), .agg (evc ⟨kd, i, li, wo, va⟩)] w fun r w' => r = .returned (.bool (!(S.core i).st && (S.core i).settled)) ∧ Chg [] w w' := by
  obtain ⟨bl, cl, kb, bp, bc, bm, xs, G, P0⟩ := h
  obtain ⟨n1, n2⟩ := one_new w (.cells (evc ⟨kd, i, li, wo, va⟩) 41)
  have P := P0.keep n2 (by simp)
  have hpF : ∀ z ∈ F, z ≠ w.heap.size := fun z hz e => by have := P0.old z hz; omega
  have N2 := Lib.hid n2
  clear n2 P0
  go_enter Try.func50, Try.ntmps50
  go_upto_region 1 with fail
  generalize w.alloc (.cells (evc ⟨kd, i, li, wo, va⟩) 41) = w1 at *
  generalize w.heap.size = p at *
  have hq := P.hq
  unfold busc at hq
  obtain ⟨x, g, hco, hg, hcs⟩ := P.core hi
  have hcb := hco.hb
  obtain ⟨c0, c1, c2, c3, c4, c5, c6, c7, c8⟩ := cx_cells hco.hx
  rw [hco.co.st] at c3
  have i0 : (0 : Int) ≤ (i : Int) := by omega
  have i1 : (i : Int) < (m : Int) := by omega
  have HCO := Lib.hid hco
  clear P hco hcs hi
  cases hst : (S.core i).st
  all_goals
    rw [hst] at c3
    go_quiet (fail)
    have h2 := HCO.out.keep ((Chg.refl [] w1).drewN nq) (by simp) (by simp)
    have H2 := Lib.hid h2
    clear h2
    go_wp2_with (go_at_call 65; refine (settled_any H2.out).mono ?_; rintro e w' ⟨rfl, rfl⟩)
    go_ret
    exact ⟨by rw [hst]; rfl, N2.out.drewN _⟩
theorem sees_ev (h : BusM n m w q F S) {N : Nat} (ok : S.Ok n m N) {l o : Nat} (hl : l < n) (ho : o < 8) (kd co va : Int) : Calls Try.prog 61 #[.pointer (some ⟨q, 0, none⟩), .agg (evc ⟨kd, co, l, o, va⟩)] w fun r w' => r = .returned (.bool (S.word l o == va)) ∧ Chg [] w w' := by
  obtain ⟨bl, cl, kb, bp, bc, bm, xs, G, P0⟩ := h
  obtain ⟨n1, n2⟩ := one_new w (.cells (evc ⟨kd, co, l, o, va⟩) 41)
  have P := P0.keep n2 (by simp)
  have hpF : ∀ z ∈ F, z ≠ w.heap.size := fun z hz e => by have := P0.old z hz; omega
  have N2 := Lib.hid n2
  clear n2 P0
  go_enter Try.func61, Try.ntmps61
  go_upto_region 1 with fail
  generalize w.alloc (.cells (evc ⟨kd, co, l, o, va⟩) 41) = w1 at *
  generalize w.heap.size = p at *
  have hq := P.hq
  unfold busc at hq
  obtain ⟨r, hr⟩ := P.hl
  have l0 : (0 : Int) ≤ (l : Int) := by omega
  have l1 : (l : Int) < (n : Int) := by omega
  have o0 : (0 : Int) ≤ (o : Int) := by omega
  have o1 : (o : Int) < 8 := by omega
  have hw : (bk S.ls r)[l * 8 + o]? = some (.int .u64 (S.word l o)) := by
    have := ok.ls
    unfold bk Bs.word
    rw [List.getElem?_toArray, List.getElem?_append_left (by simp; omega), List.getElem?_map, List.getD_eq_getElem?_getD, List.getElem?_eq_getElem (by omega)]
    rfl
  generalize hv : S.word l o = v at *
  have HV := Lib.hid hv
  clear P ok hl ho hv
  go_quiet (fail)
  go_wp2_with fail
  go_ret
  rw [HV.out]
  exact ⟨rfl, N2.out.drewN _⟩
theorem change_ev (h : BusM n m w q F S) {N : Nat} (ok : S.Ok n m N) {i l o : Nat} (hi : i < m) (hl : l < n) (ho : o < 8) (kd va : Int) : Calls Try.prog 47 #[.pointer (some ⟨q, 0, none⟩), .agg (evc ⟨kd, i, l, o, va⟩)] w fun r w' => r = .returned (.bool ((!(S.core i).st && (S.core i).settled) && S.word l o == va)) ∧ Chg [] w w' := by
  obtain ⟨n1, n2⟩ := one_new w (.cells (evc ⟨kd, i, l, o, va⟩) 41)
  have h := h.keep n2 (by simp)
  have N2 := Lib.hid n2
  clear n2
  go_enter Try.func47, Try.ntmps47
  go_upto_region 1 with fail
  generalize w.alloc (.cells (evc ⟨kd, i, l, o, va⟩) 41) = w1 at *
  generalize w.heap.size = p at *
  have HM := Lib.hid h
  clear h
  cases hb : (!(S.core i).st && (S.core i).settled)
  · go_wp2_with (go_at_call 50; refine (fence_ev HM.out hi _ _ _ _).mono ?_; rintro e w3 ⟨rfl, c3⟩; rw [hb]; have C3 := Lib.hid c3; clear c3)
    go_ret
    exact ⟨by rw [hb]; rfl, N2.out.trans C3.out⟩
  · go_wp2_with (first | (go_at_call 50; refine (fence_ev HM.out hi _ _ _ _).mono ?_; rintro e w3 ⟨rfl, c3⟩; rw [hb]; have n3 := c3.keep n1 (by simp); have C3 := Lib.hid c3; clear c3) | (go_at_call 61; refine (sees_ev (HM.out.keep C3.out (by simp)) ok hl ho _ _ _).mono ?_; rintro e w4 ⟨rfl, c4⟩; have C4 := Lib.hid c4; clear c4))
    go_ret
    exact ⟨by rw [hb]; rfl, (N2.out.trans C3.out).trans C4.out⟩

end
end Go.Proofs.Ytnocekhgabgffaa
end
section
namespace Go.Proofs.Ytnocekhgabgffaa
open Go.RowKit
set_option linter.unusedVariables false
set_option maxHeartbeats 1000000

set_option maxRecDepth 100000
attribute [local go_sem ↓] append_appS copy_copS clear_clrS make_mkS slice_slS lookup_lookS mput_mputS del_mdelS cell_row frozen_row heap_drew heap_drewN heap_alloc heap_past heap_setCell heap_putRow heap_setB loadEv storeEv loadBe storeBe loadSp storeSp loadNw storeNw loadLine storeLine evc_kd evc_co evc_li evc_wo evc_va bec_fl bec_li bec_wo bec_va nwC_0 nwC_1 spC_0 spC_1
attribute [local go_sem] rowCell_some rowFrozen_some rowHas_some rowIn_some rowPart_full rowPart_lit rowPut_full rowPut_lit rowSet_some size_putRow size_setB run_loadS run_storeS run_appS run_copS run_clrS run_mkS run_slS run_lookS run_mputS run_mdelS loadW_at storeW_at fit_all fit_le one_int one_bool one_pointer one_slice allOne_list putRow_new ne_size1 ne_size2 ne_size3 ne_size4 wideEv wideBe wideSp wideNw wideLine evc_size evc_one evc_ne evc_lit evc_z fold_evc bec_size bec_one bec_lit bec_ne bec_at bec_in spC_size spC_one nwC_size nwC_one nwC_ne nwC_set0 nwC_set1 nwC_lit bec_set0 bec_set1 bec_set2 bec_set3 spC_set0 spC_set1 spC_lit fold_spC spC_ne fold_nwC fold_bec fold_at vs_size vs_one ic_size ic_get
attribute [local simp ↓] heap_drew heap_drewN heap_alloc heap_past heap_setCell heap_putRow heap_setB
attribute [local simp] rowCell_some rowFrozen_some rowHas_some rowIn_some rowPart_full rowPart_lit rowPut_full rowPut_lit rowSet_some size_putRow size_setB fit_all putRow_new ne_size1 ne_size2 ne_size3 ne_size4 evc_size bec_size spC_size nwC_size vs_size fit_le
section
variable {n m : Nat} {w : World} {q : Nat} {F : List Nat} {S : Bs}
theorem field_nw1 (a v : Int) (w : World) : (Instr.field 118 (.agg (nwC a v)) 1).run Try.prog w = .ok (.int .u64 v) w := by kernel_rfl
theorem look_ok {ms : Nat} {sm : List ((Int × Int) × (Int × Int))} {o : Obj} (ho : IsMapO spV o (onA nwV sm)) (l wo : Int) :
    (∀ w', w'.heap[ms]? = some o → lookR Try.prog 107 (.map (some ms)) (.agg (spC l wo)) true w' = .ok (.tuple #[.agg (nwC (newO sm (l, wo)).1 (newO sm (l, wo)).2), .bool (lookA (l, wo) sm).isSome]) w') := by
  intro w' h
  have := lookR_ok spot_keyE Try.underlying107 zero_new ho (l, wo) w' h
  rw [lookA_on] at this
  refine this.trans ?_
  unfold newO
  cases lookA (l, wo) sm <;> rfl
theorem load_ev (h : BusM n m w q F S) {N : Nat} (ok : S.Ok n m N) {i l o : Nat} (hi : i < m) (hl : l < n) (ho : o < 8) (kd va : Int) : Calls Try.prog 44 #[.pointer (some ⟨q, 0, none⟩), .agg (evc ⟨kd, i, l, o, va⟩)] w fun r w' => r = .returned (.bool ((!(S.core i).st && (!(lookA ((l : Int), (o : Int)) (S.core i).sm).isSome && S.word l o == va)))) ∧ Chg [] w w' := by
  obtain ⟨bl, cl, kb, bp, bc, bm, xs, G, P0⟩ := h
  obtain ⟨n1, n2⟩ := one_new w (.cells (evc ⟨kd, i, l, o, va⟩) 41)
  have P := P0.keep n2 (by simp)
  have hpF : ∀ z ∈ F, z ≠ w.heap.size := fun z hz e => by have := P0.old z hz; omega
  have N2 := Lib.hid n2
  clear n2 P0
  go_enter Try.func44, Try.ntmps44
  go_upto_region 1 with fail
  generalize w.alloc (.cells (evc ⟨kd, i, l, o, va⟩) 41) = w1 at *
  generalize w.heap.size = p at *
  have hq := P.hq
  unfold busc at hq
  obtain ⟨x, g, hco, hg, hcs⟩ := P.core hi
  have hcb := hco.hb
  obtain ⟨c0, c1, c2, c3, c4, c5, c6, c7, c8⟩ := cx_cells hco.hx
  rw [hco.co.st] at c3
  have i0 : (0 : Int) ≤ (i : Int) := by omega
  have i1 : (i : Int) < (m : Int) := by omega
  have hne : x.ms ∈ g := by
    obtain ⟨_, _, _, Fb, hs', hF, _⟩ := hco.co
    exact hF.mem_iff.2 (by simp)
  have hbq : bc ≠ p := hpF bc (P.mem bc (by simp))
  obtain ⟨_, _, _, Fb, hs', hF, _, ⟨om, hom, hmm⟩, _⟩ := hco.co
  have hlk := look_ok (ms := x.ms) hmm l o
  generalize hnw : newO (S.core i).sm ((l : Int), (o : Int)) = nw at *
  generalize hsm : (lookA ((l : Int), (o : Int)) (S.core i).sm).isSome = has at *
  generalize hst : (S.core i).st = st at *
  have HNW := Lib.hid hnw
  have HSM := Lib.hid hsm
  have HST := Lib.hid hst
  have HP := Lib.hid (show BusM n m w1 q F S from ⟨bl, cl, kb, bp, bc, bm, xs, G, P⟩)
  have fnw := field_nw1 nw.1 nw.2
  clear P hco hcs hnw hsm hst hmm hF hg
  go_quiet (fail)
  have D := (Chg.refl [] w1).drewN nq
  have N3 := Lib.hid (N2.out.trans D)
  have HP3 := Lib.hid (HP.out.keep D (by simp))
  have n1 := D.keep n1 (by simp)
  have hcb := D.keep hcb (by simp)
  have hom := D.keep hom (by simp)
  clear D N2 HP hq
  generalize w1.drewN nq = w2 at *
  go_upto_region 2 with fail
  go_region_law (first | (go_simp; go_at_call 60; refine (spotof_any _ _).mono ?_; rintro v w3 ⟨rfl, c3⟩; (try have r3 : w3.heap[w2.heap.size]? = some (.cells (nwC 0 0) 118 (0, 0)) := c3.keep (by first | exact (MapKept.heap_alloc w2 _).1) (by simp)); have d3 : Chg [] w2 w3 := Chg.trans (by first | exact Chg.refl [] w2 | exact (Chg.refl [] w2).drew | exact ((Chg.refl [] w2).alloc _).drew | exact ((Chg.refl [] w2).drew).alloc _) c3; have hcb3 := d3.keep hcb (by simp); have hom3 := d3.keep hom (by simp); have n3 := d3.keep n1 (by simp); have D3 := Lib.hid d3; clear c3 d3))
  all_goals
    first
    | (refine world_cut (fun w5 => w5.heap[w2.heap.size]? = some (.cells (nwC nw.1 nw.2) 118 (0, 0)) ∧ Chg [] w2 w5) ⟨put_new r3 (by simp [nwC_size]), D3.out.putRow _ _ _ (.inr (Nat.le_refl _))⟩ ?_
       generalize w2.heap.size = r at *)
    | (refine world_cut (fun w5 => w5.heap[w3.heap.size]? = some (.cells (nwC nw.1 nw.2) 118 (0, 0)) ∧ Chg [] w2 w5) ⟨(MapKept.heap_alloc w3 _).1, D3.out.alloc _⟩ ?_
       generalize w3.heap.size = r at *)
    rintro w5 ⟨r5, c5⟩
    have hcb5 := c5.keep hcb (by simp)
    have n5 := c5.keep n1 (by simp)
    have HM5 := Lib.hid (HP3.out.keep c5 (by simp))
    have C5 := Lib.hid (N3.out.trans c5)
    clear c5 hcb3 hom3 n3 D3 hcb n1 hom HP3 N3 hlk
    cases st
    · cases has
      · go_wp2_with (go_at_call 61; refine (sees_ev HM5.out ok hl ho _ _ _).mono ?_; rintro e w6 ⟨rfl, c6⟩; have C6 := Lib.hid c6; clear c6)
        go_ret
        rw [HST.out, HSM.out]
        exact ⟨rfl, C5.out.trans C6.out⟩
      · go_wp2_with fail
        go_ret
        rw [HST.out, HSM.out]
        exact ⟨rfl, C5.out⟩
    · go_wp2_with fail
      go_ret
      rw [HST.out]
      exact ⟨rfl, C5.out⟩
theorem own_ev (h : BusM n m w q F S) {N : Nat} (ok : S.Ok n m N) {i l o : Nat} (hi : i < m) (hl : l < n) (ho : o < 8) (kd va : Int) : Calls Try.prog 45 #[.pointer (some ⟨q, 0, none⟩), .agg (evc ⟨kd, i, l, o, va⟩)] w fun r w' => r = .returned (.bool ((!(S.core i).st && ((lookA ((l : Int), (o : Int)) (S.core i).sm).isSome && (newO (S.core i).sm ((l : Int), (o : Int))).2 == va)))) ∧ Chg [] w w' := by
  obtain ⟨bl, cl, kb, bp, bc, bm, xs, G, P0⟩ := h
  obtain ⟨n1, n2⟩ := one_new w (.cells (evc ⟨kd, i, l, o, va⟩) 41)
  have P := P0.keep n2 (by simp)
  have hpF : ∀ z ∈ F, z ≠ w.heap.size := fun z hz e => by have := P0.old z hz; omega
  have N2 := Lib.hid n2
  clear n2 P0
  go_enter Try.func45, Try.ntmps45
  go_upto_region 1 with fail
  generalize w.alloc (.cells (evc ⟨kd, i, l, o, va⟩) 41) = w1 at *
  generalize w.heap.size = p at *
  have hq := P.hq
  unfold busc at hq
  obtain ⟨x, g, hco, hg, hcs⟩ := P.core hi
  have hcb := hco.hb
  obtain ⟨c0, c1, c2, c3, c4, c5, c6, c7, c8⟩ := cx_cells hco.hx
  rw [hco.co.st] at c3
  have i0 : (0 : Int) ≤ (i : Int) := by omega
  have i1 : (i : Int) < (m : Int) := by omega
  have hne : x.ms ∈ g := by
    obtain ⟨_, _, _, Fb, hs', hF, _⟩ := hco.co
    exact hF.mem_iff.2 (by simp)
  have hbq : bc ≠ p := hpF bc (P.mem bc (by simp))
  obtain ⟨_, _, _, Fb, hs', hF, _, ⟨om, hom, hmm⟩, _⟩ := hco.co
  have hlk := look_ok (ms := x.ms) hmm l o
  generalize hnw : newO (S.core i).sm ((l : Int), (o : Int)) = nw at *
  generalize hsm : (lookA ((l : Int), (o : Int)) (S.core i).sm).isSome = has at *
  generalize hst : (S.core i).st = st at *
  have HNW := Lib.hid hnw
  have HSM := Lib.hid hsm
  have HST := Lib.hid hst
  have HP := Lib.hid (show BusM n m w1 q F S from ⟨bl, cl, kb, bp, bc, bm, xs, G, P⟩)
  have fnw := field_nw1 nw.1 nw.2
  clear P hco hcs hnw hsm hst hmm hF hg
  go_quiet (fail)
  have D := (Chg.refl [] w1).drewN nq
  have N3 := Lib.hid (N2.out.trans D)
  have HP3 := Lib.hid (HP.out.keep D (by simp))
  have n1 := D.keep n1 (by simp)
  have hcb := D.keep hcb (by simp)
  have hom := D.keep hom (by simp)
  clear D N2 HP hq
  generalize w1.drewN nq = w2 at *
  go_upto_region 2 with fail
  go_region_law (first | (go_simp; go_at_call 60; refine (spotof_any _ _).mono ?_; rintro v w3 ⟨rfl, c3⟩; (try have r3 : w3.heap[w2.heap.size]? = some (.cells (nwC 0 0) 118 (0, 0)) := c3.keep (by first | exact (MapKept.heap_alloc w2 _).1) (by simp)); have d3 : Chg [] w2 w3 := Chg.trans (by first | exact Chg.refl [] w2 | exact (Chg.refl [] w2).drew | exact ((Chg.refl [] w2).alloc _).drew | exact ((Chg.refl [] w2).drew).alloc _) c3; have hcb3 := d3.keep hcb (by simp); have hom3 := d3.keep hom (by simp); have n3 := d3.keep n1 (by simp); have D3 := Lib.hid d3; clear c3 d3))
  all_goals
    first
    | (refine world_cut (fun w5 => w5.heap[w2.heap.size]? = some (.cells (nwC nw.1 nw.2) 118 (0, 0)) ∧ Chg [] w2 w5) ⟨put_new r3 (by simp [nwC_size]), D3.out.putRow _ _ _ (.inr (Nat.le_refl _))⟩ ?_
       generalize w2.heap.size = r at *)
    | (refine world_cut (fun w5 => w5.heap[w3.heap.size]? = some (.cells (nwC nw.1 nw.2) 118 (0, 0)) ∧ Chg [] w2 w5) ⟨(MapKept.heap_alloc w3 _).1, D3.out.alloc _⟩ ?_
       generalize w3.heap.size = r at *)
    rintro w5 ⟨r5, c5⟩
    have hcb5 := c5.keep hcb (by simp)
    have n5 := c5.keep n1 (by simp)
    have HM5 := Lib.hid (HP3.out.keep c5 (by simp))
    have C5 := Lib.hid (N3.out.trans c5)
    clear c5 hcb3 hom3 n3 D3 hcb n1 hom HP3 N3 hlk
    cases st
    · cases has
      · go_wp2_with fail
        go_ret
        rw [HST.out, HSM.out]
        exact ⟨rfl, C5.out⟩
      · go_wp2_with fail
        go_ret
        rw [HST.out, HSM.out, HNW.out]
        exact ⟨rfl, C5.out⟩
    · go_wp2_with fail
      go_ret
      rw [HST.out]
      exact ⟨rfl, C5.out⟩

end
end Go.Proofs.Ytnocekhgabgffaa
end
section
namespace Go.Proofs.Ytnocekhgabgffaa
open Go.RowKit
set_option linter.unusedVariables false
set_option maxHeartbeats 1000000

set_option maxRecDepth 100000
attribute [local go_sem ↓] append_appS copy_copS clear_clrS make_mkS slice_slS lookup_lookS mput_mputS del_mdelS cell_row frozen_row heap_drew heap_drewN heap_alloc heap_past heap_setCell heap_putRow heap_setB loadEv storeEv loadBe storeBe loadSp storeSp loadNw storeNw loadLine storeLine evc_kd evc_co evc_li evc_wo evc_va bec_fl bec_li bec_wo bec_va nwC_0 nwC_1 spC_0 spC_1
attribute [local go_sem] rowCell_some rowFrozen_some rowHas_some rowIn_some rowPart_full rowPart_lit rowPut_full rowPut_lit rowSet_some size_putRow size_setB run_loadS run_storeS run_appS run_copS run_clrS run_mkS run_slS run_lookS run_mputS run_mdelS loadW_at storeW_at fit_all fit_le one_int one_bool one_pointer one_slice allOne_list putRow_new ne_size1 ne_size2 ne_size3 ne_size4 wideEv wideBe wideSp wideNw wideLine evc_size evc_one evc_ne evc_lit evc_z fold_evc bec_size bec_one bec_lit bec_ne bec_at bec_in spC_size spC_one nwC_size nwC_one nwC_ne nwC_set0 nwC_set1 nwC_lit bec_set0 bec_set1 bec_set2 bec_set3 spC_set0 spC_set1 spC_lit fold_spC spC_ne fold_nwC fold_bec fold_at vs_size vs_one ic_size ic_get
attribute [local simp ↓] heap_drew heap_drewN heap_alloc heap_past heap_setCell heap_putRow heap_setB
attribute [local simp] rowCell_some rowFrozen_some rowHas_some rowIn_some rowPart_full rowPart_lit rowPut_full rowPut_lit rowSet_some size_putRow size_setB fit_all putRow_new ne_size1 ne_size2 ne_size3 ne_size4 evc_size bec_size spC_size nwC_size vs_size fit_le
def Bs.stopC (S : Bs) (i : Nat) : Bs := if (S.core i).st then S else S.setC i { S.core i with st := true }
def Bs.putC (S : Bs) (i : Nat) (y : Be) : Bs := if (S.core i).st then S else S.setC i ((S.core i).putE y)
section
variable {n m : Nat} {w : World} {q : Nat} {F : List Nat} {S : Bs}
theorem stop_ev (h : BusM n m w q F S) {i : Nat} (hi : i < m) (kd li wo va : Int) : Calls Try.prog 52 #[.pointer (some ⟨q, 0, none⟩), .agg (evc ⟨kd, i, li, wo, va⟩)] w fun r w' => r = .returned (.bool (!(S.core i).st)) ∧ BusTo n m w q F (S.stopC i) w' := by
  obtain ⟨bl, cl, kb, bp, bc, bm, xs, G, P0⟩ := h
  obtain ⟨n1, n2⟩ := one_new w (.cells (evc ⟨kd, i, li, wo, va⟩) 41)
  have P := P0.keep n2 (by simp)
  have hpF : ∀ z ∈ F, z ≠ w.heap.size := fun z hz e => by have := P0.old z hz; omega
  have N2 := Lib.hid n2
  clear n2 P0
  go_enter Try.func52, Try.ntmps52
  go_upto_region 1 with fail
  generalize w.alloc (.cells (evc ⟨kd, i, li, wo, va⟩) 41) = w1 at *
  generalize w.heap.size = p at *
  have hq := P.hq
  unfold busc at hq
  obtain ⟨x, g, hco, hg, hcs⟩ := P.core hi
  have hcb := hco.hb
  obtain ⟨c0, c1, c2, c3, c4, c5, c6, c7, c8⟩ := cx_cells hco.hx
  rw [hco.co.st] at c3
  have i0 : (0 : Int) ≤ (i : Int) := by omega
  have i1 : (i : Int) < (m : Int) := by omega
  have HCO := Lib.hid hco
  have HP := Lib.hid P
  cases hst : (S.core i).st
  · rw [hst] at c3
    clear P hco hcs hi
    go_quiet (fail)
    have D := (Chg.refl [] w1).drewN nq
    have N3 := Lib.hid (N2.out.trans D)
    have HP3 := Lib.hid (HP.out.keep D (by simp))
    have HC3 := Lib.hid (HCO.out.keep D (by simp) (by simp))
    have hcb := D.keep hcb (by simp)
    clear D N2 HP hq n1 HCO
    generalize w1.drewN nq = w2 at *
    go_wp2_with fail
    go_ret
    rw [hst]
    refine ⟨rfl, ?_⟩
    rw [show S.stopC i = S.setC i { S.core i with st := true } by simp [Bs.stopC, hst]]
    have c4 : Chg [bc] w2 (w2.setCell ⟨bc, i * 9 + 3, none⟩ (.bool true)) := (Chg.refl [bc] w2).setCell _ _ _ (.inl (by simp))
    have ht : CoTo w2 bc i xs g { S.core i with st := true } (w2.setCell ⟨bc, i * 9 + 3, none⟩ (.bool true)) := by
      refine ⟨{ x with st := true }, g, ?_, (HC3.out.co.stop true).keep c4 (fun b hb => ?_), HC3.out.nd, fun b hb => .inl hb, c4.mono (by simp)⟩
      · rw [heap_setCell, if_pos rfl, hcb, rowSet_some, cx_st HC3.out.hx]
      · simp; rintro rfl; exact HC3.out.nb hb
    obtain ⟨F', xs', G', p1, p2, p3⟩ := HP3.out.setc hg ht
    exact (show BusTo n m w2 q F (S.setC i { S.core i with st := true }) _ from ⟨F', ⟨_, _, _, _, _, _, _, _, p1⟩, p2, p3⟩).of N3.out
  · rw [hst] at c3
    have HM := Lib.hid (show BusM n m w1 q F S from ⟨_, _, _, _, _, _, _, _, P⟩)
    clear P hco hcs hi HP HCO
    go_quiet (fail)
    go_wp2_with fail
    go_ret
    rw [hst]
    refine ⟨rfl, ?_⟩
    rw [show S.stopC i = S by simp [Bs.stopC, hst]]
    exact ((HM.out.to ((Chg.refl [] w1).drewN nq)).of N2.out)
theorem put_ev (h : BusM n m w q F S) {N : Nat} (ok : S.Ok n m N) (hN : N ≤ 1000000) {i : Nat} (hi : i < m) (kd li wo va : Int) (y : Be) : Calls Try.prog 66 #[.pointer (some ⟨q, 0, none⟩), .agg (evc ⟨kd, i, li, wo, va⟩), .agg (bec y)] w fun r w' => r = .returned (.bool (!(S.core i).st)) ∧ BusTo n m w q F (S.putC i y) w' := by
  obtain ⟨bl, cl, kb, bp, bc, bm, xs, G, P0⟩ := h
  obtain ⟨n0, n1, n2⟩ := two_new w (.cells (evc ⟨kd, i, li, wo, va⟩) 41) (.cells (bec y) 125)
  have P := P0.keep n2 (by simp)
  have hpF : ∀ z ∈ F, z ≠ w.heap.size + 1 := fun z hz e => by have := P0.old z hz; omega
  have N2 := Lib.hid n2
  clear n2 P0
  go_enter Try.func66, Try.ntmps66
  go_upto_region 1 with fail
  generalize ((w.alloc (.cells (evc ⟨kd, i, li, wo, va⟩) 41)).alloc (.cells (bec y) 125)) = w1 at *
  generalize w.heap.size + 1 = p2 at *
  generalize w.heap.size = p at *
  have hq := P.hq
  unfold busc at hq
  obtain ⟨x, g, hco, hg, hcs⟩ := P.core hi
  have hcb := hco.hb
  obtain ⟨c0, c1, c2, c3, c4, c5, c6, c7, c8⟩ := cx_cells hco.hx
  rw [hco.co.st] at c3
  have i0 : (0 : Int) ≤ (i : Int) := by omega
  have i1 : (i : Int) < (m : Int) := by omega
  have HCO := Lib.hid hco
  have HP := Lib.hid P
  have HS := Lib.hid (ok.cb _ (List.mem_of_getElem? hcs))
  cases hst : (S.core i).st
  · rw [hst] at c3
    clear P hco hcs hi
    go_quiet (fail)
    have D := (Chg.refl [] w1).drewN nq
    have N3 := Lib.hid (N2.out.trans D)
    have HP3 := Lib.hid (HP.out.keep D (by simp))
    have HC3 := Lib.hid (HCO.out.keep D (by simp) (by simp))
    have hcb := D.keep hcb (by simp)
    have n1 := D.keep n1 (by simp)
    clear D N2 HP hq HCO
    generalize w1.drewN nq = w2 at *
    go_wp2_with (go_at_call 71; refine (put_any HC3.out HS.out hN _).mono ?_; rintro e w3 ⟨rfl, ht⟩; have HT := Lib.hid ht; clear ht)
    go_ret
    rw [hst]
    refine ⟨rfl, ?_⟩
    rw [show S.putC i y = S.setC i ((S.core i).putE y) by simp [Bs.putC, hst]]
    obtain ⟨F', xs', G', p1, p2, p3⟩ := HP3.out.setc hg HT.out
    exact (show BusTo n m w2 q F (S.setC i ((S.core i).putE y)) _ from ⟨F', ⟨_, _, _, _, _, _, _, _, p1⟩, p2, p3⟩).of N3.out
  · rw [hst] at c3
    have HM := Lib.hid (show BusM n m w1 q F S from ⟨_, _, _, _, _, _, _, _, P⟩)
    clear P hco hcs hi HP HCO
    go_quiet (fail)
    go_wp2_with fail
    go_ret
    rw [hst]
    refine ⟨rfl, ?_⟩
    rw [show S.putC i y = S by simp [Bs.putC, hst]]
    exact ((HM.out.to ((Chg.refl [] w1).drewN nq)).of N2.out)
theorem issue_ev (h : BusM n m w q F S) {N : Nat} (ok : S.Ok n m N) (hN : N ≤ 1000000) {i : Nat} (hi : i < m) (kd li wo va : Int) : Calls Try.prog 54 #[.pointer (some ⟨q, 0, none⟩), .agg (evc ⟨kd, i, li, wo, va⟩)] w fun r w' => r = .returned (.bool (!(S.core i).st)) ∧ BusTo n m w q F (S.putC i (storeOf ⟨kd, i, li, wo, va⟩)) w' := by
  obtain ⟨n1, n2⟩ := one_new w (.cells (evc ⟨kd, i, li, wo, va⟩) 41)
  have h := h.keep n2 (by simp)
  have N2 := Lib.hid n2
  clear n2
  go_enter Try.func54, Try.ntmps54
  go_upto_region 1 with fail
  generalize w.alloc (.cells (evc ⟨kd, i, li, wo, va⟩) 41) = w1 at *
  generalize w.heap.size = p at *
  have HM := Lib.hid h
  clear h
  go_region_law (first | (go_simp; go_at_call 63; refine (storeof_any _ _).mono ?_; rintro e w3 ⟨rfl, c3⟩; have d3 : Chg [] w1 w3 := Chg.trans (by first | exact Chg.refl [] w1 | exact (Chg.refl [] w1).drew) c3; have n3 := d3.keep n1 (by simp); have C3 := Lib.hid d3; clear c3 d3) | (go_simp; go_at_call 66; refine (put_ev (HM.out.keep C3.out (by simp)) ok hN hi _ _ _ _ _).mono ?_; rintro e w4 ⟨rfl, c4⟩; have C4 := Lib.hid c4; clear c4))
  all_goals
    go_wp2_with fail
    go_ret
    exact ⟨rfl, (C4.out.of C3.out).of N2.out⟩
theorem want_ev (h : BusM n m w q F S) {N : Nat} (ok : S.Ok n m N) (hN : N ≤ 1000000) {i : Nat} (hi : i < m) (kd li wo va : Int) : Calls Try.prog 56 #[.pointer (some ⟨q, 0, none⟩), .agg (evc ⟨kd, i, li, wo, va⟩)] w fun r w' => r = .returned (.bool (!(S.core i).st)) ∧ BusTo n m w q F (S.putC i (flushOf ⟨kd, i, li, wo, va⟩)) w' := by
  obtain ⟨n1, n2⟩ := one_new w (.cells (evc ⟨kd, i, li, wo, va⟩) 41)
  have h := h.keep n2 (by simp)
  have N2 := Lib.hid n2
  clear n2
  go_enter Try.func56, Try.ntmps56
  go_upto_region 1 with fail
  generalize w.alloc (.cells (evc ⟨kd, i, li, wo, va⟩) 41) = w1 at *
  generalize w.heap.size = p at *
  have HM := Lib.hid h
  clear h
  go_region_law (first | (go_simp; go_at_call 67; refine (flushof_any _ _).mono ?_; rintro e w3 ⟨rfl, c3⟩; have d3 : Chg [] w1 w3 := Chg.trans (by first | exact Chg.refl [] w1 | exact (Chg.refl [] w1).drew) c3; have n3 := d3.keep n1 (by simp); have C3 := Lib.hid d3; clear c3 d3) | (go_simp; go_at_call 66; refine (put_ev (HM.out.keep C3.out (by simp)) ok hN hi _ _ _ _ _).mono ?_; rintro e w4 ⟨rfl, c4⟩; have C4 := Lib.hid c4; clear c4))
  all_goals
    go_wp2_with fail
    go_ret
    exact ⟨rfl, (C4.out.of C3.out).of N2.out⟩
end
end Go.Proofs.Ytnocekhgabgffaa
end
section
namespace Go.Proofs.Ytnocekhgabgffaa
open Go.RowKit
set_option linter.unusedVariables false
set_option maxHeartbeats 1000000

set_option maxRecDepth 100000
attribute [local go_sem ↓] append_appS copy_copS clear_clrS make_mkS slice_slS lookup_lookS mput_mputS del_mdelS cell_row frozen_row heap_drew heap_drewN heap_alloc heap_past heap_setCell heap_putRow heap_setB loadEv storeEv loadBe storeBe loadSp storeSp loadNw storeNw loadLine storeLine evc_kd evc_co evc_li evc_wo evc_va bec_fl bec_li bec_wo bec_va nwC_0 nwC_1 spC_0 spC_1
attribute [local go_sem] rowCell_some rowFrozen_some rowHas_some rowIn_some rowPart_full rowPart_lit rowPut_full rowPut_lit rowSet_some size_putRow size_setB run_loadS run_storeS run_appS run_copS run_clrS run_mkS run_slS run_lookS run_mputS run_mdelS loadW_at storeW_at fit_all fit_le one_int one_bool one_pointer one_slice allOne_list putRow_new ne_size1 ne_size2 ne_size3 ne_size4 wideEv wideBe wideSp wideNw wideLine evc_size evc_one evc_ne evc_lit evc_z fold_evc bec_size bec_one bec_lit bec_ne bec_at bec_in spC_size spC_one nwC_size nwC_one nwC_ne nwC_set0 nwC_set1 nwC_lit bec_set0 bec_set1 bec_set2 bec_set3 spC_set0 spC_set1 spC_lit fold_spC spC_ne fold_nwC fold_bec fold_at vs_size vs_one ic_size ic_get
attribute [local simp ↓] heap_drew heap_drewN heap_alloc heap_past heap_setCell heap_putRow heap_setB
attribute [local simp] rowCell_some rowFrozen_some rowHas_some rowIn_some rowPart_full rowPart_lit rowPut_full rowPut_lit rowSet_some size_putRow size_setB fit_all putRow_new ne_size1 ne_size2 ne_size3 ne_size4 evc_size bec_size spC_size nwC_size vs_size fit_le
theorem bk_set (xs : List Int) (r : List Value) (j : Nat) (v : Int) (h : j < xs.length) : (bk xs r).setIfInBounds j (.int .u64 v) = bk (xs.set j v) r := by
  unfold bk
  rw [List.setIfInBounds_toArray, List.set_append_left _ _ (by simpa using h), List.map_set]
section
variable {n m : Nat} {w : World} {q : Nat} {F : List Nat} {S : Bs}
def Bs.storeS (S : Bs) (i l o : Nat) (va : Int) : Option Bs :=
  match (S.core i).takeE ⟨false, l, o, va⟩ with
  | some c' => some ((S.setC i c').setW l o va)
  | none => if (S.core i).locks l o then some (S.setW l o va) else none
/-- The last part of a store: all see it. -/
theorem setW_bus {n m : Nat} {w : World} {q : Nat} {F : List Nat} {S : Bs} {bl cl kb bp bc bm : Nat} {xs : List Cx} {G : List (List Nat)} (P : BusP n m w q F S bl cl kb bp bc bm xs G) {l o : Nat} (h : l * 8 + o < S.ls.length) (va : Int) {w' : World} (hw : w' = w.setCell ⟨bl, l * 8 + o, none⟩ (.int .u64 va)) : BusTo n m w q F (S.setW l o va) w' := by
  subst hw
  have c : Chg [bl] w (w.setCell ⟨bl, l * 8 + o, none⟩ (.int .u64 va)) := (Chg.refl [bl] w).setCell _ _ _ (.inl (by simp))
  obtain ⟨r, hr⟩ := P.hl
  refine ⟨F, ⟨_, _, _, _, _, _, _, _, P.setl c ⟨r, ?_⟩⟩, c.mono (fun z hz => .inl ?_), fun b hb => .inl hb⟩
  · rw [heap_setCell, if_pos rfl, hr, rowSet_some, bk_set _ _ _ _ h]
  · simp only [List.mem_singleton] at hz; subst hz; exact P.mem _ (by simp)
theorem store_ev (h : BusM n m w q F S) {N : Nat} (ok : S.Ok n m N) (hN : N ≤ 1000000) {i l o : Nat} (hi : i < m) (hl : l < n) (ho : o < 8) (kd va : Int) : Calls Try.prog 46 #[.pointer (some ⟨q, 0, none⟩), .agg (evc ⟨kd, i, l, o, va⟩)] w fun r w' => r = .returned (.bool (S.storeS i l o va).isSome) ∧ BusTo n m w q F ((S.storeS i l o va).getD S) w' := by
  obtain ⟨bl, cl, kb, bp, bc, bm, xs, G, P0⟩ := h
  obtain ⟨n1, n2⟩ := one_new w (.cells (evc ⟨kd, i, l, o, va⟩) 41)
  have P := P0.keep n2 (by simp)
  have hpF : ∀ z ∈ F, z ≠ w.heap.size := fun z hz e => by have := P0.old z hz; omega
  have N2 := Lib.hid n2
  clear n2 P0
  go_enter Try.func46, Try.ntmps46
  go_upto_region 1 with fail
  generalize w.alloc (.cells (evc ⟨kd, i, l, o, va⟩) 41) = w1 at *
  generalize w.heap.size = p at *
  have hq := P.hq
  unfold busc at hq
  obtain ⟨x, g, hco, hg, hcs⟩ := P.core hi
  have hcb := hco.hb
  obtain ⟨c0, c1, c2, c3, c4, c5, c6, c7, c8⟩ := cx_cells hco.hx
  rw [hco.co.st] at c3
  have i0 : (0 : Int) ≤ (i : Int) := by omega
  have i1 : (i : Int) < (m : Int) := by omega
  have HS := Lib.hid (ok.cb _ (List.mem_of_getElem? hcs))
  have HCO := Lib.hid hco
  have HP := Lib.hid P
  have l0 : (0 : Int) ≤ (l : Int) := by omega
  have l1 : (l : Int) < (n : Int) := by omega
  have o0 : (0 : Int) ≤ (o : Int) := by omega
  have o1 : (o : Int) < 8 := by omega
  have hlo : l * 8 + o < S.ls.length := by have := ok.ls; omega
  have HLO := Lib.hid hlo
  clear P hco hcs ok hlo
  go_quiet (fail)
  have D := (Chg.refl [] w1).drewN nq
  have N3 := Lib.hid (N2.out.trans D)
  have P2 := HP.out.keep D (by simp)
  have HC3 := Lib.hid (HCO.out.keep D (by simp) (by simp))
  have n1 := D.keep n1 (by simp)
  clear D N2 HP hq HCO hcb
  generalize w1.drewN nq = w2 at *
  have HP2 := Lib.hid P2
  have hpg : p ∉ bc :: g := fun h => by
    rcases List.mem_cons.1 h with rfl | h
    · exact hpF p (P2.mem p (by simp)) rfl
    · exact hpF p (P2.per.mem_iff.2 (List.mem_append.2 (.inr (List.mem_flatten.2 ⟨g, List.mem_of_getElem? hg, h⟩)))) rfl
  have HPG := Lib.hid hpg
  clear P2 hpg
  cases htk : (S.core i).takeE (storeOf ⟨kd, i, l, o, va⟩) with
  | some c' =>
    go_upto_if 2 with (first | (go_at_call 63; refine (storeof_any _ _).mono ?_; rintro e w3 ⟨rfl, c3⟩; have n3 := c3.keep n1 (by simp); have C3 := Lib.hid c3; clear c3) | (go_at_call 62; refine (take_any (HC3.out.keep C3.out (by simp) (by simp)) HS.out hN _).mono ?_; rintro e w4 ⟨rfl, ht⟩; rw [htk]; have HT := Lib.hid ht; clear ht))
    have ht : CoTo w3 bc i xs g c' w4 := by
      rcases HT.out with ⟨c2, h1, h2⟩ | ⟨h1, _⟩
      · rw [htk] at h1; cases h1; exact h2
      · rw [htk] at h1; cases h1
    have hcg : Chg (bc :: g) w3 w4 := by obtain ⟨_, _, _, _, _, _, h⟩ := ht; exact h
    have n4 := hcg.keep n3 HPG.out
    obtain ⟨F4, xs4, G4, P4, q4, f4⟩ := (HP2.out.keep C3.out (by simp)).setc hg ht
    have Q4 := Lib.hid q4
    have FF4 := Lib.hid f4
    have HTK := Lib.hid htk
    clear ht hcg HT n1 n3 hg q4 f4 htk c0 c1 c2 c4 c5 c6 c7 c8 hpF HPG HC3 HS HP2
    have hq4 := P4.hq
    unfold busc at hq4
    obtain ⟨r4, hl4⟩ := P4.hl
    rw [show (S.setC i c').ls = S.ls from rfl] at hl4
    have hv4 : ∃ v0, (bk S.ls r4)[l * 8 + o]? = some (.int .u64 v0) := by
      refine ⟨S.ls[l * 8 + o]'HLO.out, ?_⟩
      unfold bk
      rw [List.getElem?_toArray, List.getElem?_append_left (by simpa using HLO.out), List.getElem?_map, List.getElem?_eq_getElem HLO.out]
      rfl
    obtain ⟨v0, hv4⟩ := hv4
    have HP4 := Lib.hid P4
    clear P4
    go_region
    go_wp2_with fail
    go_ret
    have e0 : S.storeS i l o va = some ((S.setC i c').setW l o va) := by
      unfold Bs.storeS
      rw [show (S.core i).takeE ⟨false, l, o, va⟩ = some c' from HTK.out]
    rw [e0]
    refine ⟨rfl, ?_⟩
    exact (((setW_bus (HP4.out.keep ((Chg.refl [] w4).drew) (by simp)) HLO.out va rfl).of ((Chg.refl [] w4).drew)).on Q4.out FF4.out |>.of C3.out).of N3.out

  | none =>
    cases hlk : (S.core i).locks l o
    · go_wp2_with (first | (go_at_call 63; refine (storeof_any _ _).mono ?_; rintro e w3 ⟨rfl, c3⟩; have n3 := c3.keep n1 (by simp); have C3 := Lib.hid c3; clear c3) | (go_at_call 62; refine (take_any (HC3.out.keep C3.out (by simp) (by simp)) HS.out hN _).mono ?_; rintro e w4 ⟨rfl, ht⟩; have c4 : Chg [] w3 w4 := by { rcases ht with ⟨c2, h1, h2⟩ | ⟨_, h1⟩; { rw [htk] at h1; cases h1 }; { exact h1 } }; clear ht; rw [htk]; have n4 := c4.keep n3 (by simp); have C4 := Lib.hid (C3.out.trans c4); clear c4) | (go_at_call 60; refine (spotof_any _ _).mono ?_; rintro e w5 ⟨rfl, c5⟩; have n5 := c5.keep n4 (by simp); have C5 := Lib.hid (C4.out.trans c5); clear c5) | (go_at_call 64; refine (locks_any (HC3.out.keep C5.out (by simp) (by simp)) _ _).mono ?_; rintro e w6 ⟨rfl, c6⟩; rw [hlk]; have n6 := c6.keep n5 (by simp); have C6 := Lib.hid (C5.out.trans c6); clear c6))
      go_ret
      have e0 : S.storeS i l o va = none := by
        unfold Bs.storeS
        rw [show (S.core i).takeE ⟨false, l, o, va⟩ = none from htk, hlk]; rfl
      rw [e0]
      exact ⟨rfl, ((show BusM n m w2 q F S from ⟨_, _, _, _, _, _, _, _, HP2.out⟩).to C6.out).of N3.out⟩
    · go_upto_if 2 with (first | (go_at_call 63; refine (storeof_any _ _).mono ?_; rintro e w3 ⟨rfl, c3⟩; have n3 := c3.keep n1 (by simp); have C3 := Lib.hid c3; clear c3) | (go_at_call 62; refine (take_any (HC3.out.keep C3.out (by simp) (by simp)) HS.out hN _).mono ?_; rintro e w4 ⟨rfl, ht⟩; have c4 : Chg [] w3 w4 := by { rcases ht with ⟨c2, h1, h2⟩ | ⟨_, h1⟩; { rw [htk] at h1; cases h1 }; { exact h1 } }; clear ht; rw [htk]; have n4 := c4.keep n3 (by simp); have C4 := Lib.hid (C3.out.trans c4); clear c4) | (go_at_call 60; refine (spotof_any _ _).mono ?_; rintro e w5 ⟨rfl, c5⟩; have n5 := c5.keep n4 (by simp); have C5 := Lib.hid (C4.out.trans c5); clear c5) | (go_at_call 64; refine (locks_any (HC3.out.keep C5.out (by simp) (by simp)) _ _).mono ?_; rintro e w6 ⟨rfl, c6⟩; rw [hlk]; have n6 := c6.keep n5 (by simp); have C6 := Lib.hid (C5.out.trans c6); clear c6))
      have P4 := HP2.out.keep C6.out (by simp)
      have HTK := Lib.hid htk
      have HLK := Lib.hid hlk
      clear n1 n3 n4 n5 hg htk hlk c0 c1 c2 c4 c5 c6 c7 c8 hpF HPG HC3 HS HP2
      have hq4 := P4.hq
      unfold busc at hq4
      obtain ⟨r4, hl4⟩ := P4.hl
      have hv4 : ∃ v0, (bk S.ls r4)[l * 8 + o]? = some (.int .u64 v0) := by
        refine ⟨S.ls[l * 8 + o]'HLO.out, ?_⟩
        unfold bk
        rw [List.getElem?_toArray, List.getElem?_append_left (by simpa using HLO.out), List.getElem?_map, List.getElem?_eq_getElem HLO.out]
        rfl
      obtain ⟨v0, hv4⟩ := hv4
      have HP4 := Lib.hid P4
      clear P4
      go_region
      go_wp2_with fail
      go_ret
      have e0 : S.storeS i l o va = some (S.setW l o va) := by
        unfold Bs.storeS
        rw [show (S.core i).takeE ⟨false, l, o, va⟩ = none from HTK.out, HLK.out]; rfl
      rw [e0]
      refine ⟨rfl, ?_⟩
      exact (((setW_bus (HP4.out.keep ((Chg.refl [] w6).drew) (by simp)) HLO.out va rfl).of ((Chg.refl [] w6).drew)).of C6.out).of N3.out

end
end Go.Proofs.Ytnocekhgabgffaa
end
section
namespace Go.Proofs.Ytnocekhgabgffaa
open Go.RowKit
set_option linter.unusedVariables false
set_option maxHeartbeats 1000000

set_option maxRecDepth 100000
attribute [local go_sem ↓] append_appS copy_copS clear_clrS make_mkS slice_slS lookup_lookS mput_mputS del_mdelS cell_row frozen_row heap_drew heap_drewN heap_alloc heap_past heap_setCell heap_putRow heap_setB loadEv storeEv loadBe storeBe loadSp storeSp loadNw storeNw loadLine storeLine evc_kd evc_co evc_li evc_wo evc_va bec_fl bec_li bec_wo bec_va nwC_0 nwC_1 spC_0 spC_1
attribute [local go_sem] rowCell_some rowFrozen_some rowHas_some rowIn_some rowPart_full rowPart_lit rowPut_full rowPut_lit rowSet_some size_putRow size_setB run_loadS run_storeS run_appS run_copS run_clrS run_mkS run_slS run_lookS run_mputS run_mdelS loadW_at storeW_at fit_all fit_le one_int one_bool one_pointer one_slice allOne_list putRow_new ne_size1 ne_size2 ne_size3 ne_size4 wideEv wideBe wideSp wideNw wideLine evc_size evc_one evc_ne evc_lit evc_z fold_evc bec_size bec_one bec_lit bec_ne bec_at bec_in spC_size spC_one nwC_size nwC_one nwC_ne nwC_set0 nwC_set1 nwC_lit bec_set0 bec_set1 bec_set2 bec_set3 spC_set0 spC_set1 spC_lit fold_spC spC_ne fold_nwC fold_bec fold_at vs_size vs_one ic_size ic_get
attribute [local simp ↓] heap_drew heap_drewN heap_alloc heap_past heap_setCell heap_putRow heap_setB
attribute [local simp] rowCell_some rowFrozen_some rowHas_some rowIn_some rowPart_full rowPart_lit rowPut_full rowPut_lit rowSet_some size_putRow size_setB fit_all putRow_new ne_size1 ne_size2 ne_size3 ne_size4 evc_size bec_size spC_size nwC_size vs_size fit_le
def hsZ : Hs := ⟨[], none, 0, []⟩
def hsOf (k : Int) (hs : List (Int × Hs)) : Hs := (lookA k hs).getD hsZ
theorem foot_at (k : Int) : ∀ hs : List (Int × Hs), ∃ R, (foot hs).Perm ((hsOf k hs).F ++ R) ∧ (∀ h', (foot (putA k h' hs)).Perm (h'.F ++ R) ∧ ∀ p ∈ putA k h' hs, p = (k, h') ∨ p ∈ hs ∧ ∀ z ∈ p.2.F, z ∈ R) ∧
    ∀ h', (foot (dropA k (putA k h' hs))).Perm R ∧ ∀ p ∈ dropA k (putA k h' hs), p ∈ hs ∧ ∀ z ∈ p.2.F, z ∈ R
  | [] => ⟨[], by simp [foot, hsOf, lookA, hsZ], fun h' => ⟨by simp [foot, putA], fun p hp => by simp [putA] at hp; exact .inl hp⟩, fun h' => ⟨by simp [foot, putA, dropA], fun p hp => by simp [putA, dropA] at hp⟩⟩
  | (a, u) :: hs => by
    by_cases hk : a = k
    · have e0 : hsOf k ((a, u) :: hs) = u := by simp [hsOf, lookA, hk]
      rw [e0]
      have hR : ∀ p ∈ hs, ∀ z ∈ p.2.F, z ∈ foot hs := fun p hp z hz => List.mem_flatten.2 ⟨_, List.mem_map.2 ⟨p, hp, rfl⟩, hz⟩
      refine ⟨foot hs, List.Perm.refl _, fun h' => ?_, fun h' => ?_⟩
      · unfold putA; rw [if_pos hk]
        refine ⟨by rw [foot_cons], fun p hp => ?_⟩
        rcases List.mem_cons.1 hp with h | h
        · exact .inl h
        · exact .inr ⟨List.mem_cons_of_mem _ h, hR p h⟩
      · unfold putA; rw [if_pos hk]; unfold dropA; rw [if_pos rfl]
        exact ⟨List.Perm.refl _, fun p hp => ⟨List.mem_cons_of_mem _ hp, hR p hp⟩⟩
    · obtain ⟨R, h1, h2, h3⟩ := foot_at k hs
      have e0 : hsOf k ((a, u) :: hs) = hsOf k hs := by simp [hsOf, lookA, hk]
      rw [e0]
      refine ⟨u.F ++ R, ?_, fun h' => ?_, fun h' => ?_⟩
      · rw [foot_cons]; exact ((List.Perm.append_left _ h1).trans (by rw [← List.append_assoc, ← List.append_assoc]; exact List.Perm.append_right _ List.perm_append_comm))
      · unfold putA; rw [if_neg hk]
        refine ⟨by rw [foot_cons]; exact ((List.Perm.append_left _ (h2 h').1).trans (by rw [← List.append_assoc, ← List.append_assoc]; exact List.Perm.append_right _ List.perm_append_comm)), fun p hp => ?_⟩
        rcases List.mem_cons.1 hp with h | h
        · subst h; exact .inr ⟨List.mem_cons_self, fun z hz => by simp at hz; simp [hz]⟩
        · rcases (h2 h').2 p h with h | ⟨h, h4⟩
          · exact .inl h
          · exact .inr ⟨List.mem_cons_of_mem _ h, fun z hz => List.mem_append.2 (.inr (h4 z hz))⟩
      · unfold putA; rw [if_neg hk]; unfold dropA; rw [if_neg hk]
        refine ⟨by rw [foot_cons]; exact List.Perm.append_left _ (h3 h').1, fun p hp => ?_⟩
        rcases List.mem_cons.1 hp with h | h
        · subst h; exact ⟨List.mem_cons_self, fun z hz => by simp at hz; simp [hz]⟩
        · obtain ⟨h, h4⟩ := (h3 h').2 p h
          exact ⟨List.mem_cons_of_mem _ h, fun z hz => List.mem_append.2 (.inr (h4 z hz))⟩
theorem CoIn.madeT {w w' : World} {bc i : Nat} {xs : List Cx} {x : Cx} {g : List Nat} {c : Bc} (h : CoIn w bc i xs x g c) {Fb : List Nat} {hs hs2 : List (Int × Hs)} (hF : g.Perm (x.ms :: x.mt :: (Fb ++ foot hs)))
    (hv : Vq 4 125 Be.enc w Fb x.A x.cap c.buf) (hm : MapAt spV w x.ms (onA nwV c.sm)) (hvt : ∀ p ∈ hs, Vq 1 3 intEnc w p.2.F p.2.A p.2.cap p.2.xs)
    {F0 F2 R : List Nat} (hR : (foot hs).Perm (F0 ++ R)) (hR2 : (foot hs2).Perm (F2 ++ R)) (hF2 : ∀ z ∈ F2, z ∈ F0 ∨ w.heap.size ≤ z) (hn2 : F2.Nodup) (hc : Chg (x.mt :: F0) w w')
    (hm' : MapAt (fun k : Int => Value.int .i64 k) w' x.mt (onA Hs.val hs2)) (hall : ∀ p ∈ hs2, (Vq 1 3 intEnc w' p.2.F p.2.A p.2.cap p.2.xs) ∨ p ∈ hs ∧ ∀ z ∈ p.2.F, z ∈ R) : CoTo w bc i xs g { c with tm := onA Hs.xs hs2 } w' := by
  obtain ⟨hb, hx, hco, nd, nb⟩ := h
  have hog : ∀ b ∈ g, b < w.heap.size := fun b hb => (hco.old b hb).lt
  have hper : g.Perm (([x.ms, x.mt] ++ Fb) ++ (F0 ++ R)) := hF.trans (by
    have := List.Perm.append_left ([x.ms, x.mt] ++ Fb) hR
    simpa using this)
  have hg : ∀ z, z ∈ g ↔ z ∈ ([x.ms, x.mt] ++ Fb) ++ (F0 ++ R) := fun z => hper.mem_iff
  have hnd := hper.nodup_iff.1 nd
  have hnd2 := nodup_swap (N := w.heap.size) (F' := F2) hnd (fun z hz => hog z ((hg z).2 (by
    simp only [List.mem_append] at hz ⊢
    rcases hz with hz | hz
    · exact .inl hz
    · exact .inr (.inr hz)))) hn2 hF2
  rw [List.nodup_append] at hnd
  obtain ⟨ha, hb2, hd⟩ := hnd
  rw [List.nodup_append] at hb2
  simp only [List.cons_append, List.nil_append, List.nodup_cons, List.mem_cons, not_or] at ha
  have hmt : x.mt ∈ g := (hg _).2 (by simp)
  have hF0 : ∀ z ∈ F0, z ∈ g := fun z hz => (hg z).2 (by simp [hz])
  refine ⟨x, x.ms :: x.mt :: (Fb ++ foot hs2), ?_, ⟨hco.n, hco.st, hco.la, Fb, hs2, List.Perm.refl _, hv.keep hc (fun z hz => ?_), hm.keep hc ?_, hm', rfl, fun p hp => ?_⟩, ?_, fun z hz => ?_, hc.mono (fun z hz => .inl ?_)⟩
  · have e : xs.set i x = xs := by
      apply List.ext_getElem?
      intro j
      rw [List.getElem?_set]
      split
      · rename_i e; subst e
        split
        · exact hx.symm
        · rename_i h; exact absurd (List.getElem?_eq_some_iff.1 hx).1 h
      · rfl
    rw [e]
    refine hc.keep hb ?_
    simp only [List.mem_cons, not_or]
    exact ⟨fun e => nb (e ▸ hmt), fun h => nb (hF0 _ h)⟩
  · simp only [List.mem_cons, not_or]
    exact ⟨fun e => ha.2.1 (e ▸ hz), fun h => hd z (by simp [hz]) z (by simp [h]) rfl⟩
  · simp only [List.mem_cons, not_or]
    exact ⟨ha.1.1, fun h => hd x.ms (by simp) x.ms (by simp [h]) rfl⟩
  · rcases hall p hp with h | ⟨h1, h2⟩
    · exact h
    · refine (hvt p h1).keep hc (fun z hz => ?_)
      have hzR := h2 z hz
      simp only [List.mem_cons, not_or]
      exact ⟨fun e => hd x.mt (by simp) z (by simp [hzR]) e.symm, fun h => hb2.2.2 z h z hzR rfl⟩
  · refine (List.Perm.nodup_iff ?_).2 hnd2
    have := List.Perm.append_left ([x.ms, x.mt] ++ Fb) hR2
    simpa using this
  · simp only [List.mem_cons, List.mem_append] at hz
    rcases hz with rfl | rfl | hz | hz
    · exact .inl ((hg _).2 (by simp))
    · exact .inl hmt
    · exact .inl ((hg z).2 (by simp [hz]))
    · rcases List.mem_append.1 (hR2.mem_iff.1 hz) with h | h
      · exact (hF2 z h).imp (hF0 z) id
      · exact .inl ((hg z).2 (by simp [h]))
  · simp only [List.mem_cons] at hz ⊢
    rcases hz with rfl | hz
    · exact .inr hmt
    · exact .inr (hF0 z hz)
theorem look_tm {mt : Nat} {hs : List (Int × Hs)} {o : Obj} (ho : IsMapO (fun k : Int => Value.int .i64 k) o (onA Hs.val hs)) (l : Int) :
    ∀ w', w'.heap[mt]? = some o → lookR Try.prog 109 (.map (some mt)) (.int .i64 l) false w' = .ok (.slice (hsOf l hs).A (hsOf l hs).xs.length (hsOf l hs).cap) w' := by
  intro w' h
  have := lookR_at key_int Try.underlying109 zero_ints ho l w' h
  rw [lookA_on] at this
  refine this.trans ?_
  unfold hsOf
  cases lookA l hs <;> rfl
theorem put_tm {mt : Nat} {hs : List (Int × Hs)} {o : Obj} (ho : IsMapO (fun k : Int => Value.int .i64 k) o (onA Hs.val hs)) (l : Int) (h : Hs) :
    ∃ o', IsMapO (fun k : Int => Value.int .i64 k) o' (onA Hs.val (putA l h hs)) ∧ ∀ w', w'.heap[mt]? = some o → mputR Try.prog 109 (.map (some mt)) (.int .i64 l) (.slice h.A h.xs.length h.cap) w' = .ok () (setB w' mt o') := by
  obtain ⟨o', h1, h2⟩ := mputR_at (b := mt) key_int Try.underlying109 ho l h.val
  rw [putA_on] at h1
  exact ⟨o', h1, h2⟩
theorem del_tm {mt : Nat} {hs : List (Int × Hs)} {o : Obj} (ho : IsMapO (fun k : Int => Value.int .i64 k) o (onA Hs.val hs)) (l : Int) (ty : TypeId) :
    ∃ o', IsMapO (fun k : Int => Value.int .i64 k) o' (onA Hs.val (dropA l hs)) ∧ ∀ w', w'.heap[mt]? = some o → mdelR Try.prog #[109, 3] ty #[.map (some mt), .int .i64 l] w' = .ok (.tuple #[]) (setB w' mt o') := by
  obtain ⟨o', h1, h2⟩ := mdelR_at (b := mt) key_int Try.underlying109 ho l ty 3
  rw [dropA_on] at h1
  exact ⟨o', h1, h2⟩
theorem hsOf_tm {hs : List (Int × Hs)} {c : Bc} (h : onA Hs.xs hs = c.tm) (l : Int) : (hsOf l hs).xs = sentOf c l := by
  unfold sentOf hsOf
  rw [← h, lookA_on]
  cases lookA l hs <;> rfl
theorem hsOf_vq {hs : List (Int × Hs)} {w : World} (h : ∀ p ∈ hs, Vq 1 3 intEnc w p.2.F p.2.A p.2.cap p.2.xs) (l : Int) : Vq 1 3 intEnc w (hsOf l hs).F (hsOf l hs).A (hsOf l hs).cap (hsOf l hs).xs := by
  unfold hsOf
  cases e : lookA l hs with
  | none => exact Vq.nil _ _ _ _
  | some u => exact h _ (lookA_mem e)
end Go.Proofs.Ytnocekhgabgffaa
end
section
namespace Go.Proofs.Ytnocekhgabgffaa
open Go.RowKit
set_option linter.unusedVariables false
set_option maxHeartbeats 1000000

set_option maxRecDepth 100000
attribute [local go_sem ↓] append_appS copy_copS clear_clrS make_mkS slice_slS lookup_lookS mput_mputS del_mdelS cell_row frozen_row heap_drew heap_drewN heap_alloc heap_past heap_setCell heap_putRow heap_setB loadEv storeEv loadBe storeBe loadSp storeSp loadNw storeNw loadLine storeLine evc_kd evc_co evc_li evc_wo evc_va bec_fl bec_li bec_wo bec_va nwC_0 nwC_1 spC_0 spC_1
attribute [local go_sem] rowCell_some rowFrozen_some rowHas_some rowIn_some rowPart_full rowPart_lit rowPut_full rowPut_lit rowSet_some size_putRow size_setB run_loadS run_storeS run_appS run_copS run_clrS run_mkS run_slS run_lookS run_mputS run_mdelS loadW_at storeW_at fit_all fit_le one_int one_bool one_pointer one_slice allOne_list putRow_new ne_size1 ne_size2 ne_size3 ne_size4 wideEv wideBe wideSp wideNw wideLine evc_size evc_one evc_ne evc_lit evc_z fold_evc bec_size bec_one bec_lit bec_ne bec_at bec_in spC_size spC_one nwC_size nwC_one nwC_ne nwC_set0 nwC_set1 nwC_lit bec_set0 bec_set1 bec_set2 bec_set3 spC_set0 spC_set1 spC_lit fold_spC spC_ne fold_nwC fold_bec fold_at vs_size vs_one ic_size ic_get
attribute [local simp ↓] heap_drew heap_drewN heap_alloc heap_past heap_setCell heap_putRow heap_setB
attribute [local simp] rowCell_some rowFrozen_some rowHas_some rowIn_some rowPart_full rowPart_lit rowPut_full rowPut_lit rowSet_some size_putRow size_setB fit_all putRow_new ne_size1 ne_size2 ne_size3 ne_size4 evc_size bec_size spC_size nwC_size vs_size fit_le
section
variable {n m : Nat} {w : World} {q : Nat} {F : List Nat} {S : Bs}
def Bs.sendS (S : Bs) (i l : Nat) : Option Bs :=
  match (S.core i).takeE ⟨true, l, 0, 0⟩ with
  | some c' => some (S.setC i (c'.sendE l (S.ps.getD l 0)))
  | none => none
theorem setC_setC (S : Bs) (i : Nat) (c d : Bc) : (S.setC i c).setC i d = S.setC i d := by simp [Bs.setC]
theorem setC_core {S : Bs} {i : Nat} (h : i < S.cs.length) (c : Bc) : (S.setC i c).core i = c := by
  unfold Bs.core Bs.setC
  rw [List.getD_eq_getElem?_getD, List.getElem?_set_self h]; rfl
theorem take_tm {c c' : Bc} {y : Be} (h : c.takeE y = some c') : c'.tm = c.tm := by
  unfold Bc.takeE at h
  cases hb : c.buf with
  | nil => rw [hb] at h; cases h
  | cons z l =>
    rw [hb] at h
    simp only at h
    split at h
    · cases h; rfl
    · cases h
theorem send_ev (h : BusM n m w q F S) {N : Nat} (ok : S.Ok n m N) (hN : N ≤ 1000000) {i l : Nat} (hi : i < m) (hl : l < n) (kd wo va : Int) : Calls Try.prog 55 #[.pointer (some ⟨q, 0, none⟩), .agg (evc ⟨kd, i, l, wo, va⟩)] w fun r w' => r = .returned (.bool (S.sendS i l).isSome) ∧ BusTo n m w q F ((S.sendS i l).getD S) w' := by
  obtain ⟨bl, cl, kb, bp, bc, bm, xs, G, P0⟩ := h
  obtain ⟨n1, n2⟩ := one_new w (.cells (evc ⟨kd, i, l, wo, va⟩) 41)
  have P := P0.keep n2 (by simp)
  have hpF : ∀ z ∈ F, z ≠ w.heap.size := fun z hz e => by have := P0.old z hz; omega
  have N2 := Lib.hid n2
  clear n2 P0
  go_enter Try.func55, Try.ntmps55
  go_upto_region 1 with fail
  generalize w.alloc (.cells (evc ⟨kd, i, l, wo, va⟩) 41) = w1 at *
  generalize w.heap.size = p at *
  have hq := P.hq
  unfold busc at hq
  obtain ⟨x, g, hco, hg, hcs⟩ := P.core hi
  have hcb := hco.hb
  obtain ⟨c0, c1, c2, c3, c4, c5, c6, c7, c8⟩ := cx_cells hco.hx
  rw [hco.co.st] at c3
  have i0 : (0 : Int) ≤ (i : Int) := by omega
  have i1 : (i : Int) < (m : Int) := by omega
  have hsm := ok.cb _ (List.mem_of_getElem? hcs)
  have htl := hsm.tm
  have HS := Lib.hid hsm
  have HCO := Lib.hid hco
  have HP := Lib.hid P
  have l0 : (0 : Int) ≤ (l : Int) := by omega
  have l1 : (l : Int) < (n : Int) := by omega
  have hps : l < S.ps.length := by rw [ok.ps]; exact hl
  have him : i < S.cs.length := by rw [ok.cs]; exact hi
  have HI := Lib.hid him
  have HTL := Lib.hid htl
  have HPS := Lib.hid hps
  clear P hco hcs ok hps hsm him htl
  go_quiet (fail)
  have D := (Chg.refl [] w1).drewN nq
  have N3 := Lib.hid (N2.out.trans D)
  have P2 := HP.out.keep D (by simp)
  have HC3 := Lib.hid (HCO.out.keep D (by simp) (by simp))
  have n1 := D.keep n1 (by simp)
  clear D N2 HP hq HCO hcb
  generalize w1.drewN nq = w2 at *
  have HP2 := Lib.hid P2
  have hpg : p ∉ bc :: g := fun h => by
    rcases List.mem_cons.1 h with rfl | h
    · exact hpF p (P2.mem p (by simp)) rfl
    · exact hpF p (P2.per.mem_iff.2 (List.mem_append.2 (.inr (List.mem_flatten.2 ⟨g, List.mem_of_getElem? hg, h⟩)))) rfl
  have HPG := Lib.hid hpg
  clear P2 hpg
  cases htk : (S.core i).takeE (flushOf ⟨kd, i, l, wo, va⟩) with
  | none =>
    go_wp2_with (first | (go_at_call 67; refine (flushof_any _ _).mono ?_; rintro e w3 ⟨rfl, c3⟩; have n3 := c3.keep n1 (by simp); have C3 := Lib.hid c3; clear c3) | (go_at_call 62; refine (take_any (HC3.out.keep C3.out (by simp) (by simp)) HS.out hN _).mono ?_; rintro e w4 ⟨rfl, ht⟩; rw [htk]; have HT := Lib.hid ht; clear ht))
    go_ret
    have e0 : S.sendS i l = none := by
      unfold Bs.sendS
      rw [show (S.core i).takeE ⟨true, l, 0, 0⟩ = none from htk]
    rw [e0]
    have c4 : Chg [] w3 w4 := by
      rcases HT.out with ⟨c2, h1, h2⟩ | ⟨_, h1⟩
      · rw [htk] at h1; cases h1
      · exact h1
    exact ⟨rfl, ((show BusM n m w2 q F S from ⟨_, _, _, _, _, _, _, _, HP2.out⟩).to (C3.out.trans c4)).of N3.out⟩
  | some c' =>
    go_upto_if 2 with (first | (go_at_call 67; refine (flushof_any _ _).mono ?_; rintro e w3 ⟨rfl, c3⟩; have n3 := c3.keep n1 (by simp); have C3 := Lib.hid c3; clear c3) | (go_at_call 62; refine (take_any (HC3.out.keep C3.out (by simp) (by simp)) HS.out hN _).mono ?_; rintro e w4 ⟨rfl, ht⟩; rw [htk]; have HT := Lib.hid ht; clear ht))
    have ht : CoTo w3 bc i xs g c' w4 := by
      rcases HT.out with ⟨c2, h1, h2⟩ | ⟨h1, _⟩
      · rw [htk] at h1; cases h1; exact h2
      · rw [htk] at h1; cases h1
    have hcg : Chg (bc :: g) w3 w4 := by obtain ⟨_, _, _, _, _, _, h⟩ := ht; exact h
    have n4 := hcg.keep n3 HPG.out
    have hpo4 : p < w4.heap.size := lt_heap n4
    obtain ⟨F4, xs4, G4, P4, q4, f4⟩ := (HP2.out.keep C3.out (by simp)).setc hg ht
    have hpF4 : p ∉ F4 := fun h => by
      rcases f4 p h with h | h
      · exact hpF p h rfl
      · have := lt_heap n3; omega
    have Q4 := Lib.hid q4
    have FF4 := Lib.hid f4
    have HTK := Lib.hid htk
    obtain ⟨x4, g4, k4, hg4, hcs4⟩ := P4.core hi
    rw [setC_core HI.out] at k4
    clear ht hcg HT n1 n3 hg q4 f4 htk c0 c1 c2 c3 c4 c5 c6 c7 c8 hpF HPG HC3 HP2
    have hq4 := P4.hq
    unfold busc at hq4
    have hb4 := k4.hb
    have hp4 := P4.hp
    rw [show (S.setC i c').ps = S.ps from rfl] at hp4
    have hp5 : (ic S.ps)[l]? = some (.int .i64 (S.ps.getD l 0)) := by
      rw [ic_get, List.getD_eq_getElem?_getD, List.getElem?_eq_getElem HPS.out]; rfl
    generalize hpv : S.ps.getD l 0 = pv at *
    have HPV := Lib.hid hpv
    clear hpv
    obtain ⟨c0, c1, c2, c3, c4, c5, c6, c7, c8⟩ := cx_cells k4.hx
    have K4 := Lib.hid k4
    obtain ⟨Fb, hs', hF, hv, hmm, ⟨ot, hot, hmt⟩, htm, hvt⟩ := k4.co.at_
    have htm' : onA Hs.xs hs' = (S.core i).tm := htm.trans (take_tm HTK.out)
    have hlk := look_tm (mt := x4.mt) hmt l
    have hxs := hsOf_tm htm' l
    have hv0 := hsOf_vq hvt l
    have hlen : (hsOf l hs').xs.length ≤ N := by
      rw [hxs]; unfold sentOf
      cases e : lookA (l : Int) (S.core i).tm with
      | none => simp
      | some u => exact HTL.out _ (lookA_mem e)
    obtain ⟨R, r1, r2, r3⟩ := foot_at l hs'
    have hF0 : ∀ z ∈ (hsOf l hs').F, z ∈ g4 := fun z hz => hF.mem_iff.2 (by simp [r1.mem_iff, hz])
    have ca := ((Chg.refl [] w4).alloc (.cells #[.int .i64 (pv)] 3)).drew
    have esz : (w4.alloc (.cells #[.int .i64 (pv)] 3)).drew.heap.size = w4.heap.size + 1 := by
      show (w4.alloc (.cells #[.int .i64 (pv)] 3)).heap.size = _
      simp
    obtain ⟨F', cap', A', w5, happ, hv5, hF5, hc5⟩ := (hv0.keep ca (by simp)).app (ty := 57) eltI (q := bc) ((old hb4).chg ca) (fun h => k4.nb (hF0 _ h)) (int_sl (x := pv) (w := (w4.alloc (.cells #[.int .i64 (pv)] 3)).drew) (b := w4.heap.size) (T := 3) (f := (0, 0)) (by simp)) (c := 1) rfl (by omega) (by unfold maxLen; omega)
    rw [esz] at hF5
    obtain ⟨o', ho', hput⟩ := put_tm (mt := x4.mt) hmt l ⟨F', A', cap', (hsOf l hs').xs ++ [pv]⟩
    simp only [List.length_append, List.length_singleton] at hput
    have hmg : x4.mt ∈ g4 := hF.mem_iff.2 (by simp)
    have hmtF : x4.mt ∉ (hsOf l hs').F := fun h => by
      have hnd := hF.nodup_iff.1 k4.nd
      simp only [List.nodup_cons, List.mem_append] at hnd
      exact hnd.2.1 (.inr (r1.mem_iff.2 (by simp [h])))
    have hot5 := hc5.keep (ca.keep hot (by simp)) hmtF
    have hb5 := hc5.keep (ca.keep hb4 (by simp)) (fun h => k4.nb (hF0 _ h))
    have n5 := hc5.keep (ca.keep n4 (by simp)) (fun h => hpF4 (P4.per.mem_iff.2 (List.mem_append.2 (.inr (List.mem_flatten.2 ⟨g4, List.mem_of_getElem? hg4, hF0 _ h⟩)))))
    have W : CoTo w4 bc i xs4 g4 (c'.sendE l (pv)) (setB w5 x4.mt o') := by
      have d5 : Chg (hsOf l hs').F w4 (setB w5 x4.mt o') → True := fun _ => trivial
      have e5 : Chg (x4.mt :: (hsOf l hs').F) w4 (setB w5 x4.mt o') := ((ca.mono (by simp)).trans (hc5.mono (fun z hz => .inl (by simp [hz])))).setB _ _ (.inl (by simp))
      have v5 : Vq 1 3 intEnc (setB w5 x4.mt o') F' A' cap' ((hsOf l hs').xs ++ [pv]) := hv5.keep ((Chg.refl [x4.mt] w5).setB _ _ (.inl (by simp))) (fun z hz => by
        have := (k4.co.old _ hmg).lt
        rcases hF5 z hz with h | h
        · simp; rintro rfl; exact hmtF h
        · simp; omega)
      have := k4.madeT (hs2 := putA (l : Int) ⟨F', A', cap', (hsOf l hs').xs ++ [pv]⟩ hs') hF hv hmm hvt r1 (r2 _).1 (fun z hz => (hF5 z hz).imp id (fun h => by omega)) hv5.nodup e5 ⟨o', by rw [heap_setB, if_pos rfl, hot5]; rfl, ho'⟩ (fun u hu => by
        rcases (r2 _).2 u hu with h | h
        · subst h; exact .inl v5
        · exact .inr h)
      have e6 : onA Hs.xs (putA (l : Int) ⟨F', A', cap', (hsOf l hs').xs ++ [pv]⟩ hs') = (c'.sendE l (pv)).tm := by
        have := putA_on Hs.xs (l : Int) ⟨F', A', cap', (hsOf l hs').xs ++ [pv]⟩ hs'
        rw [← this, htm, hsOf_tm htm]; rfl
      rw [e6] at this
      exact this
    have HW := Lib.hid W
    have HP4 := Lib.hid P4
    clear W P4 k4 hF hv hmm hvt hmt htm htm' hxs hv0 hlen r1 r2 r3 hF0 hv5 hF5 hc5 ho' hmg hmtF esz HS HTL hcs4 hpF4 hpo4
    go_region
    go_wp2_with fail
    go_ret
    have e0 : S.sendS i l = some (S.setC i (c'.sendE l pv)) := by
      unfold Bs.sendS
      rw [show (S.core i).takeE ⟨true, l, 0, 0⟩ = some c' from HTK.out, HPV.out]
    rw [e0]
    refine ⟨rfl, ?_⟩
    obtain ⟨F6, xs6, G6, P6, q6, f6⟩ := HP4.out.setc hg4 HW.out
    rw [setC_setC] at P6
    exact (((show BusTo n m w4 q F4 (S.setC i (c'.sendE l pv)) _ from ⟨F6, ⟨_, _, _, _, _, _, _, _, P6⟩, q6, f6⟩).on Q4.out FF4.out).of C3.out).of N3.out
end
end Go.Proofs.Ytnocekhgabgffaa
end
