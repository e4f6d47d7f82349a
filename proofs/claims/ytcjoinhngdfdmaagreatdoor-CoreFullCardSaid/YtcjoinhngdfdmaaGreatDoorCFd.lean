/- What a statement of layer 13 needs further: by parts. No condition. -/
import Derived.Test.YtcjoinhngdfdmaaGreatDoorCFa
import Derived.Test.YtcjoinhngdfdmaaGreatDoorCFb
import Derived.Test.YtcjoinhngdfdmaaGreatDoorCFc
import Derived.Test.YtcjoinhngdfdmaaGreatDoorCNaq
import Derived.Below
import Derived.BigQuiet
import Derived.ChangeArms
import Derived.ChangeKeysEq
import Derived.Deep.Cut
import Derived.Deep.CutBlock
import Derived.Deep.CutRange
import Derived.Deep.DeepCutAuto
import Derived.Deep.MidRow
import Derived.Deep.QuietTactic
import Derived.Deep.RegionHeld3
import Derived.Deep.RegionWith
import Derived.DeepKeys
import Derived.IntWalk
import Derived.Laws.BitsAllLaws
import Derived.Laws.Entries
import Derived.Laws.LoneSync
import Derived.Laws.StructEq
import Derived.Lib.Hide
import Derived.Lib.SliceRun
import Derived.OpenShut
import Derived.ProofKit
import Derived.Test.YtcjoinhngdfdmaaGreatDoorChecked
import Derived.WalkKit
import Derived.WideShapes
section
namespace Go.Proofs.YtcjoinhngdfdmaaGreatDoor
open Go.RowKit
set_option linter.unusedVariables false
set_option maxHeartbeats 1000000
set_option maxRecDepth 100000
attribute [local go_sem ↓] append_appS copy_copS clear_clrS make_mkS cell_row frozen_row loadLine storeLine loadSlot storeSlot heap_drew heap_drewN heap_alloc heap_past heap_setCell heap_putRow vs_get slc_st slc_li slc_us slice_slS loadMsg storeMsg loadHas storeHas msc_kd msc_li msc_di msc_ke
attribute [local go_sem] rowCell_some rowFrozen_some rowHas_some rowIn_some rowPart_full rowPart_lit rowPut_full rowPut_lit rowSet_some size_putRow vs_size vs_one wideLine wideSlot run_loadS run_storeS run_appS run_copS run_clrS run_mkS loadW_at storeW_at fit_all fit_le one_int one_bool one_pointer one_slice allOne_list putRow_new ne_size1 ne_size2 ne_size3 ne_size4 zero8_length lines_nil line_eq lit8 slc_size slc_one slc_part slc_in fold_slt fold_slc slc_set_us wideMsg wideHas run_slS msc_size msc_one msc_part msc_in fold_msc msc_putDi msc_putKe msc_putX msc_has ms4_lit
attribute [local simp ↓] heap_drew heap_drewN heap_alloc heap_past heap_setCell heap_putRow
attribute [local simp] rowCell_some rowFrozen_some rowHas_some rowIn_some rowPart_full rowPart_lit rowPut_full rowPut_lit rowSet_some size_putRow vs_size fit_all putRow_new ne_size1 ne_size2 ne_size3 ne_size4 zero8_length slc_size msc_size msc_putDi msc_putKe msc_putX msc_has fit_le


section
variable {W w w' : World} {c : Cg} {z : Lay} {L : List (Po × Pt)} {en : List En} {es : List Ent} {xs : List Int} (h : Msd W w c z L en es xs)
include h
theorem Msd.queue_an {i : Nat} {p : Po} {x : Pt} {ys : List Ms} {v : Value} {e : Ending} (hy : L[i]? = some (p, x)) (hq : QueTo 126 (sq penc L []) z.po (i * 7 + 3) p.nb w ys v e w') :
    e = .returned v ∧ ∃ p', p'.g = p.g ∧ MTo W w c z L z (L.set i (p', { x with an := ys })) en es xs w' := by
  obtain ⟨he, be', A', cap', h1, h2, hc, hb⟩ := hq
  have hk := h.ok _ (List.mem_of_getElem? hy)
  have hown := h.own hy
  have hfn := h.foot1 (List.mem_of_getElem? hy)
  have hnew : ∀ k ∈ p.foot z.po, k < w.heap.size := fun k hk' => h.old k (hown k hk').2.2
  have hin : ∀ k, (k = p.g ∨ k = p.a ∨ k = p.b ∨ (k = p.ub ∧ p.ub ≠ z.po) ∨ (k = p.nb ∧ p.nb ≠ z.po) ∨ (k = p.db ∧ p.db ≠ z.po)) → k ∈ p.foot z.po := by
    intro k hk
    unfold Po.foot
    simp only [List.mem_append, List.mem_cons, List.not_mem_nil, or_false, mem_opt]
    rcases hk with h | h | h | h | h | h <;> simp [h]
  have hpo : ∀ k ∈ p.foot z.po, k ≠ z.po := fun k hk e => (hown k hk).1 (Lay.beB (by simp [e]))
  obtain ⟨⟨d1, d2, d3⟩, du, dn, dd, dun, dud, dnd⟩ := foot_nodup.1 hfn
  have gabl : ∀ k, (k = p.g ∨ k = p.a ∨ k = p.b) → k ∉ [z.po, p.nb] := by
    intro k hk
    have h3 := hpo k (hin k (by rcases hk with h | h | h <;> simp [h]))
    simp only [List.mem_cons, List.not_mem_nil, or_false, not_or]
    refine ⟨h3, fun e => ?_⟩
    have h4 : p.nb ≠ z.po := fun e2 => h3 (e.trans e2)
    have := dn h4
    rcases hk with rfl | rfl | rfl
    · exact this.1 e
    · exact this.2.1 e
    · exact this.2.2 e
  have hw : ∀ k ∈ [z.po, p.nb], W.heap.size ≤ k := by
    intro k hk
    refine h.new k ?_
    simp only [List.mem_cons, List.not_mem_nil, or_false] at hk
    rcases hk with rfl | rfl
    · exact Lay.inB (Lay.beB (by simp))
    · by_cases hb : p.nb = z.po
      · rw [hb]; exact Lay.inB (Lay.beB (by simp))
      · exact (hown _ (hin _ (by simp [hb]))).2.2
  have hbl : be' = p.nb ∨ (be' ∉ p.foot z.po ∧ be' ≠ z.po) := by
    rcases hb with h3 | h3
    · exact .inl h3
    · refine .inr ⟨fun hm => ?_, fun e => ?_⟩
      · have := hnew _ hm; omega
      · have := h.oldp.lt; omega
  have o_u : p.ub ≠ z.po → p.ub ∉ [z.po, p.nb] := by
    intro hb
    simp only [List.mem_cons, List.not_mem_nil, or_false, not_or]
    refine ⟨hb, fun e => ?_⟩
    have h4 : p.nb ≠ z.po := fun e2 => hb (e.trans e2)
    exact dun hb h4 e
  have o_d : p.db ≠ z.po → p.db ∉ [z.po, p.nb] := by
    intro hb
    simp only [List.mem_cons, List.not_mem_nil, or_false, not_or]
    refine ⟨hb, fun e => ?_⟩
    have h4 : p.nb ≠ z.po := fun e2 => hb (e.trans e2)
    exact dnd h4 hb e.symm
  refine ⟨he, { p with nb := be', nA := A', nc := cap' }, rfl, h.port hy hc ?_ ?_ ⟨hk.1.keepL hc hw (gabl _ (by simp)) (gabl _ (by simp)) (gabl _ (by simp)), hk.2.1.keepN hc o_u, h2, hk.2.2.2.keepN hc o_d⟩ ?_ ?_⟩
  · intro k hk
    simp only [List.mem_cons, List.not_mem_nil, or_false] at hk
    rcases hk with rfl | rfl
    · exact .inl rfl
    · by_cases hb : p.nb = z.po
      · exact .inl hb
      · exact .inr (hin _ (by simp [hb]))
  · rw [sq_put (b := ({ p with nb := be', nA := A', nc := cap' }, { x with an := ys })) penc_len hy (by decide) (by rfl)] at h1
    exact h1
  · intro k hk
    have hk2 : (k = p.g ∨ k = p.a ∨ k = p.b) ∨ (k = p.ub ∧ p.ub ≠ z.po) ∨ (k = be' ∧ be' ≠ z.po) ∨ (k = p.db ∧ p.db ≠ z.po) := by
      unfold Po.foot at hk
      simp only [List.mem_append, List.mem_cons, List.not_mem_nil, or_false, mem_opt] at hk
      rcases hk with h | h | h | h <;> simp [h]
    rcases hk2 with h3 | h3 | h3 | h3
    · exact .inl (hin k (by rcases h3 with h | h | h <;> simp [h]))
    · exact .inl (hin k (by simp [h3]))
    · rcases hb with h4 | h4
      · exact .inl (hin k (by rw [← h4]; simp [h3]))
      · exact .inr (by rw [h3.1]; exact h4)
    · exact .inl (hin k (by simp [h3]))
  · rcases hbl with h3 | ⟨h3, h4⟩
    · subst h3; exact hfn
    · have i1 : ∀ k, (k = p.g ∨ k = p.a ∨ k = p.b ∨ (k = p.ub ∧ p.ub ≠ z.po) ∨ (k = p.nb ∧ p.nb ≠ z.po) ∨ (k = p.db ∧ p.db ≠ z.po)) → k ≠ be' := fun k hk e => h3 (e ▸ hin k hk)
      have jg := i1 p.g (by simp)
      have ja := i1 p.a (by simp)
      have jb := i1 p.b (by simp)
      have ju : p.ub ≠ z.po → p.ub ≠ be' := fun hb => i1 p.ub (by simp [hb])
      have jn : p.nb ≠ z.po → p.nb ≠ be' := fun hb => i1 p.nb (by simp [hb])
      have jd : p.db ≠ z.po → p.db ≠ be' := fun hb => i1 p.db (by simp [hb])
      rw [foot_nodup]
      dsimp only
      refine ⟨⟨d1, d2, d3⟩, ?_, ?_, ?_, ?_, ?_, ?_⟩ <;> omega
theorem Msd.queue_dn {i : Nat} {p : Po} {x : Pt} {ys : List Ms} {v : Value} {e : Ending} (hy : L[i]? = some (p, x)) (hq : QueTo 126 (sq penc L []) z.po (i * 7 + 5) p.db w ys v e w') :
    e = .returned v ∧ ∃ p', p'.g = p.g ∧ MTo W w c z L z (L.set i (p', { x with dn := ys })) en es xs w' := by
  obtain ⟨he, be', A', cap', h1, h2, hc, hb⟩ := hq
  have hk := h.ok _ (List.mem_of_getElem? hy)
  have hown := h.own hy
  have hfn := h.foot1 (List.mem_of_getElem? hy)
  have hnew : ∀ k ∈ p.foot z.po, k < w.heap.size := fun k hk' => h.old k (hown k hk').2.2
  have hin : ∀ k, (k = p.g ∨ k = p.a ∨ k = p.b ∨ (k = p.ub ∧ p.ub ≠ z.po) ∨ (k = p.nb ∧ p.nb ≠ z.po) ∨ (k = p.db ∧ p.db ≠ z.po)) → k ∈ p.foot z.po := by
    intro k hk
    unfold Po.foot
    simp only [List.mem_append, List.mem_cons, List.not_mem_nil, or_false, mem_opt]
    rcases hk with h | h | h | h | h | h <;> simp [h]
  have hpo : ∀ k ∈ p.foot z.po, k ≠ z.po := fun k hk e => (hown k hk).1 (Lay.beB (by simp [e]))
  obtain ⟨⟨d1, d2, d3⟩, du, dn, dd, dun, dud, dnd⟩ := foot_nodup.1 hfn
  have gabl : ∀ k, (k = p.g ∨ k = p.a ∨ k = p.b) → k ∉ [z.po, p.db] := by
    intro k hk
    have h3 := hpo k (hin k (by rcases hk with h | h | h <;> simp [h]))
    simp only [List.mem_cons, List.not_mem_nil, or_false, not_or]
    refine ⟨h3, fun e => ?_⟩
    have h4 : p.db ≠ z.po := fun e2 => h3 (e.trans e2)
    have := dd h4
    rcases hk with rfl | rfl | rfl
    · exact this.1 e
    · exact this.2.1 e
    · exact this.2.2 e
  have hw : ∀ k ∈ [z.po, p.db], W.heap.size ≤ k := by
    intro k hk
    refine h.new k ?_
    simp only [List.mem_cons, List.not_mem_nil, or_false] at hk
    rcases hk with rfl | rfl
    · exact Lay.inB (Lay.beB (by simp))
    · by_cases hb : p.db = z.po
      · rw [hb]; exact Lay.inB (Lay.beB (by simp))
      · exact (hown _ (hin _ (by simp [hb]))).2.2
  have hbl : be' = p.db ∨ (be' ∉ p.foot z.po ∧ be' ≠ z.po) := by
    rcases hb with h3 | h3
    · exact .inl h3
    · refine .inr ⟨fun hm => ?_, fun e => ?_⟩
      · have := hnew _ hm; omega
      · have := h.oldp.lt; omega
  have o_u : p.ub ≠ z.po → p.ub ∉ [z.po, p.db] := by
    intro hb
    simp only [List.mem_cons, List.not_mem_nil, or_false, not_or]
    refine ⟨hb, fun e => ?_⟩
    have h4 : p.db ≠ z.po := fun e2 => hb (e.trans e2)
    exact dud hb h4 e
  have o_n : p.nb ≠ z.po → p.nb ∉ [z.po, p.db] := by
    intro hb
    simp only [List.mem_cons, List.not_mem_nil, or_false, not_or]
    refine ⟨hb, fun e => ?_⟩
    have h4 : p.db ≠ z.po := fun e2 => hb (e.trans e2)
    exact dnd hb h4 e
  refine ⟨he, { p with db := be', dA := A', dc := cap' }, rfl, h.port hy hc ?_ ?_ ⟨hk.1.keepL hc hw (gabl _ (by simp)) (gabl _ (by simp)) (gabl _ (by simp)), hk.2.1.keepN hc o_u, hk.2.2.1.keepN hc o_n, h2⟩ ?_ ?_⟩
  · intro k hk
    simp only [List.mem_cons, List.not_mem_nil, or_false] at hk
    rcases hk with rfl | rfl
    · exact .inl rfl
    · by_cases hb : p.db = z.po
      · exact .inl hb
      · exact .inr (hin _ (by simp [hb]))
  · rw [sq_put (b := ({ p with db := be', dA := A', dc := cap' }, { x with dn := ys })) penc_len hy (by decide) (by rfl)] at h1
    exact h1
  · intro k hk
    have hk2 : (k = p.g ∨ k = p.a ∨ k = p.b) ∨ (k = p.ub ∧ p.ub ≠ z.po) ∨ (k = p.nb ∧ p.nb ≠ z.po) ∨ (k = be' ∧ be' ≠ z.po) := by
      unfold Po.foot at hk
      simp only [List.mem_append, List.mem_cons, List.not_mem_nil, or_false, mem_opt] at hk
      rcases hk with h | h | h | h <;> simp [h]
    rcases hk2 with h3 | h3 | h3 | h3
    · exact .inl (hin k (by rcases h3 with h | h | h <;> simp [h]))
    · exact .inl (hin k (by simp [h3]))
    · exact .inl (hin k (by simp [h3]))
    · rcases hb with h4 | h4
      · exact .inl (hin k (by rw [← h4]; simp [h3]))
      · exact .inr (by rw [h3.1]; exact h4)
  · rcases hbl with h3 | ⟨h3, h4⟩
    · subst h3; exact hfn
    · have i1 : ∀ k, (k = p.g ∨ k = p.a ∨ k = p.b ∨ (k = p.ub ∧ p.ub ≠ z.po) ∨ (k = p.nb ∧ p.nb ≠ z.po) ∨ (k = p.db ∧ p.db ≠ z.po)) → k ≠ be' := fun k hk e => h3 (e ▸ hin k hk)
      have jg := i1 p.g (by simp)
      have ja := i1 p.a (by simp)
      have jb := i1 p.b (by simp)
      have ju : p.ub ≠ z.po → p.ub ≠ be' := fun hb => i1 p.ub (by simp [hb])
      have jn : p.nb ≠ z.po → p.nb ≠ be' := fun hb => i1 p.nb (by simp [hb])
      have jd : p.db ≠ z.po → p.db ≠ be' := fun hb => i1 p.db (by simp [hb])
      rw [foot_nodup]
      dsimp only
      refine ⟨⟨d1, d2, d3⟩, ?_, ?_, ?_, ?_, ?_, ?_⟩ <;> omega
end
end Go.Proofs.YtcjoinhngdfdmaaGreatDoor
end
section
namespace Go.Proofs.YtcjoinhngdfdmaaGreatDoor
open Go.RowKit
set_option linter.unusedVariables false
set_option maxHeartbeats 1000000
set_option maxRecDepth 100000
attribute [local go_sem ↓] append_appS copy_copS clear_clrS make_mkS cell_row frozen_row loadLine storeLine loadSlot storeSlot heap_drew heap_drewN heap_alloc heap_past heap_setCell heap_putRow vs_get slc_st slc_li slc_us slice_slS loadMsg storeMsg loadHas storeHas msc_kd msc_li msc_di msc_ke
attribute [local go_sem] rowCell_some rowFrozen_some rowHas_some rowIn_some rowPart_full rowPart_lit rowPut_full rowPut_lit rowSet_some size_putRow vs_size vs_one wideLine wideSlot run_loadS run_storeS run_appS run_copS run_clrS run_mkS loadW_at storeW_at fit_all fit_le one_int one_bool one_pointer one_slice allOne_list putRow_new ne_size1 ne_size2 ne_size3 ne_size4 zero8_length lines_nil line_eq lit8 slc_size slc_one slc_part slc_in fold_slt fold_slc slc_set_us wideMsg wideHas run_slS msc_size msc_one msc_part msc_in fold_msc msc_putDi msc_putKe msc_putX msc_has ms4_lit
attribute [local simp ↓] heap_drew heap_drewN heap_alloc heap_past heap_setCell heap_putRow
attribute [local simp] rowCell_some rowFrozen_some rowHas_some rowIn_some rowPart_full rowPart_lit rowPut_full rowPut_lit rowSet_some size_putRow vs_size fit_all putRow_new ne_size1 ne_size2 ne_size3 ne_size4 zero8_length slc_size msc_size msc_putDi msc_putKe msc_putX msc_has fit_le



attribute [local go_sem ↓] mlitZ zenc_po zenc_en zenc_q
attribute [local simp] mlitZ

section
variable {W w : World} {c : Cg} {z : Lay} {L : List (Po × Pt)} {en : List En} {es : List Ent} {xs : List Int} (h : Msd W w c z L en es xs)
include h
theorem Msd.head_up {i : Nat} {p : Po} {x : Pt} (hy : L[i]? = some (p, x)) (hl : x.up.length ≤ 1000) :
    Calls Tryz.prog 54 #[.pointer (some ⟨z.po, i * 7 + 1, none⟩)] w fun e w' => e = .returned (.tuple #[.agg (msc (headM x.up)), .bool (someB x.up)]) ∧ Chg [] w w' := by
  have hk := h.ok _ (List.mem_of_getElem? hy)
  exact zhead_ok 126 (sq penc L []) z.po (i * 7 + 1) p.ub p.uA p.uc x.up w h.ports (pcell hy 1 (by decide)) (pcell hy 2 (by decide)) hl hk.2.1
theorem Msd.pop_up {i : Nat} {p : Po} {x : Pt} (hy : L[i]? = some (p, x)) (hl : x.up.length ≤ 1000) :
    Calls Tryz.prog 57 #[.pointer (some ⟨z.po, i * 7 + 1, none⟩)] w fun e w' => e = .returned (.tuple #[.agg (msc (headM x.up)), .bool (someB x.up)]) ∧ ∃ p', p'.g = p.g ∧ MTo W w c z L z (L.set i (p', { x with up := x.up.tail })) en es xs w' := by
  have hk := h.ok _ (List.mem_of_getElem? hy)
  exact (zpop_ok 126 (sq penc L []) z.po (i * 7 + 1) p.ub p.uA p.uc x.up w h.ports (pcell hy 1 (by decide)) (pcell hy 2 (by decide)) hl hk.2.1).mono (fun e w' hq => h.queue_up hy hq)
theorem Msd.ub_an {i : Nat} {p : Po} {x : Pt} (hy : L[i]? = some (p, x)) : p.nb ∈ z.all L := by
  by_cases hb : p.nb = z.po
  · rw [hb]; exact h.inf hy (.inl rfl)
  · exact h.inf hy (.inr (by simp [Po.foot, mem_opt, hb]))
theorem Msd.send_an (hT : Tab W) {i : Nat} {p : Po} {x : Pt} (hy : L[i]? = some (p, x)) (B : Option Addr) (n nc : Nat) (ms : List Ms) (hn : n = ms.length) (hS : Sl w 12 B n (cat Ms.enc ms)) (hA : ∀ a, B = some a → a.block ∉ z.all L) (hl : x.an.length + n ≤ 1000) (hm : ∀ m ∈ ms, mg m = true) :
    Calls Tryz.prog 61 #[.pointer (some ⟨z.po, i * 7 + 3, none⟩), .slice B n nc] w fun e w' => e = .returned (.tuple #[]) ∧ ∃ p', p'.g = p.g ∧ MTo W w c z L z (L.set i (p', { x with an := x.an ++ ms })) en es xs w' := by
  have hk := h.ok _ (List.mem_of_getElem? hy)
  have hub := h.ub_an hy
  have hpo := h.inf hy (.inl rfl)
  refine (zsend_ok 126 (sq penc L []) z.po (i * 7 + 3) p.nb p.nA p.nc x.an B n nc ms w h.ports (pcell hy 3 (by decide)) (pcell hy 4 (by decide)) hl hk.2.2.1 (hT.keep h.chg (by simp)) ?_ hn hS ?_ hm).mono (fun e w' hq => h.queue_an hy hq)
  · have h1 := hT.old.lt
    have h2 := h.new _ hub
    have h3 := h.new _ hpo
    simp; omega
  · intro a ha
    have := hA a ha
    simp only [List.mem_cons, List.not_mem_nil, or_false, not_or]
    exact ⟨fun e => this (e ▸ hpo), fun e => this (e ▸ hub)⟩
theorem Msd.ub_dn {i : Nat} {p : Po} {x : Pt} (hy : L[i]? = some (p, x)) : p.db ∈ z.all L := by
  by_cases hb : p.db = z.po
  · rw [hb]; exact h.inf hy (.inl rfl)
  · exact h.inf hy (.inr (by simp [Po.foot, mem_opt, hb]))
theorem Msd.send_dn (hT : Tab W) {i : Nat} {p : Po} {x : Pt} (hy : L[i]? = some (p, x)) (B : Option Addr) (n nc : Nat) (ms : List Ms) (hn : n = ms.length) (hS : Sl w 12 B n (cat Ms.enc ms)) (hA : ∀ a, B = some a → a.block ∉ z.all L) (hl : x.dn.length + n ≤ 1000) (hm : ∀ m ∈ ms, mg m = true) :
    Calls Tryz.prog 61 #[.pointer (some ⟨z.po, i * 7 + 5, none⟩), .slice B n nc] w fun e w' => e = .returned (.tuple #[]) ∧ ∃ p', p'.g = p.g ∧ MTo W w c z L z (L.set i (p', { x with dn := x.dn ++ ms })) en es xs w' := by
  have hk := h.ok _ (List.mem_of_getElem? hy)
  have hub := h.ub_dn hy
  have hpo := h.inf hy (.inl rfl)
  refine (zsend_ok 126 (sq penc L []) z.po (i * 7 + 5) p.db p.dA p.dc x.dn B n nc ms w h.ports (pcell hy 5 (by decide)) (pcell hy 6 (by decide)) hl hk.2.2.2 (hT.keep h.chg (by simp)) ?_ hn hS ?_ hm).mono (fun e w' hq => h.queue_dn hy hq)
  · have h1 := hT.old.lt
    have h2 := h.new _ hub
    have h3 := h.new _ hpo
    simp; omega
  · intro a ha
    have := hA a ha
    simp only [List.mem_cons, List.not_mem_nil, or_false, not_or]
    exact ⟨fun e => this (e ▸ hpo), fun e => this (e ▸ hub)⟩
theorem Msd.pop_dn {i : Nat} {p : Po} {x : Pt} (hy : L[i]? = some (p, x)) (hl : x.dn.length ≤ 1000) :
    Calls Tryz.prog 57 #[.pointer (some ⟨z.po, i * 7 + 5, none⟩)] w fun e w' => e = .returned (.tuple #[.agg (msc (headM x.dn)), .bool (someB x.dn)]) ∧ ∃ p', p'.g = p.g ∧ MTo W w c z L z (L.set i (p', { x with dn := x.dn.tail })) en es xs w' := by
  have hk := h.ok _ (List.mem_of_getElem? hy)
  exact (zpop_ok 126 (sq penc L []) z.po (i * 7 + 5) p.db p.dA p.dc x.dn w h.ports (pcell hy 5 (by decide)) (pcell hy 6 (by decide)) hl hk.2.2.2).mono (fun e w' hq => h.queue_dn hy hq)
theorem Msd.ask_up (hT : Tab W) {i : Nat} {p : Po} {x : Pt} (hy : L[i]? = some (p, x)) (m : Ms) (hl : x.up.length < 1000) (hm : mg m = true) :
    Calls Tryz.prog 143 #[.pointer (some ⟨z.po, i * 7 + 1, none⟩), .agg (msc m)] w fun e w' => e = .returned (.int .i64 0) ∧ ∃ p', p'.g = p.g ∧ MTo W w c z L z (L.set i (p', { x with up := x.up ++ [m] })) en es xs w' := by
  have hk := h.ok _ (List.mem_of_getElem? hy)
  exact (zask_ok 126 (sq penc L []) z.po (i * 7 + 1) p.ub p.uA p.uc x.up m w h.ports (pcell hy 1 (by decide)) (pcell hy 2 (by decide)) hl hk.2.1 (hT.keep h.chg (by simp)) hm).mono (fun e w' hq => h.queue_up hy hq)
end
end Go.Proofs.YtcjoinhngdfdmaaGreatDoor
end
section
namespace Go.Proofs.YtcjoinhngdfdmaaGreatDoor
open Go.RowKit
set_option linter.unusedVariables false
set_option maxHeartbeats 1000000
set_option maxRecDepth 100000
attribute [local go_sem ↓] append_appS copy_copS clear_clrS make_mkS cell_row frozen_row loadLine storeLine loadSlot storeSlot heap_drew heap_drewN heap_alloc heap_past heap_setCell heap_putRow vs_get slc_st slc_li slc_us slice_slS loadMsg storeMsg loadHas storeHas msc_kd msc_li msc_di msc_ke
attribute [local go_sem] rowCell_some rowFrozen_some rowHas_some rowIn_some rowPart_full rowPart_lit rowPut_full rowPut_lit rowSet_some size_putRow vs_size vs_one wideLine wideSlot run_loadS run_storeS run_appS run_copS run_clrS run_mkS loadW_at storeW_at fit_all fit_le one_int one_bool one_pointer one_slice allOne_list putRow_new ne_size1 ne_size2 ne_size3 ne_size4 zero8_length lines_nil line_eq lit8 slc_size slc_one slc_part slc_in fold_slt fold_slc slc_set_us wideMsg wideHas run_slS msc_size msc_one msc_part msc_in fold_msc msc_putDi msc_putKe msc_putX msc_has ms4_lit
attribute [local simp ↓] heap_drew heap_drewN heap_alloc heap_past heap_setCell heap_putRow
attribute [local simp] rowCell_some rowFrozen_some rowHas_some rowIn_some rowPart_full rowPart_lit rowPut_full rowPut_lit rowSet_some size_putRow vs_size fit_all putRow_new ne_size1 ne_size2 ne_size3 ne_size4 zero8_length slc_size msc_size msc_putDi msc_putKe msc_putX msc_has fit_le



attribute [local go_sem ↓] mlitZ zenc_po zenc_en zenc_q
attribute [local simp] mlitZ

section
variable {W : World} {c : Cg} {z : Lay} {L : List (Po × Pt)} {en : List En} {es : List Ent} {xs : List Int}
theorem zflush_no (k : Int) (li : Int) (kd : Int) (w : World) (h : Msd W w c z L en es xs) (hk : inB k c.co = false) : Calls Tryz.prog 90 #[.pointer (some ⟨z.sy, 0, none⟩), .int .i64 k, .int .i64 li, .int .i64 kd] w fun e w' => e = .returned (.int .i64 1) ∧ w = w' := by
  have HH := Lib.hid h
  have HK := Lib.hid hk
  clear h hk
  go_enter Tryz.func90, Tryz.ntmps90
  try dsimp only [List.append]
  go_wp2_with (first | (go_at_call 53; refine (port_no k _ HH.out HK.out).mono ?_; rintro e w' ⟨rfl, rfl⟩))
  go_ret
  exact ⟨rfl, rfl⟩
theorem zflush_off (i : Nat) (li : Int) (kd : Int) (w : World) (h : Msd W w c z L en es xs) (hi : i < c.co) (hl : inB li c.li = false) : Calls Tryz.prog 90 #[.pointer (some ⟨z.sy, 0, none⟩), .int .i64 i, .int .i64 li, .int .i64 kd] w fun e w' => e = .returned (.int .i64 1) ∧ w = w' := by
  have HH := Lib.hid h
  have HI := Lib.hid hi
  have HL := Lib.hid hl
  clear h hi hl
  go_enter Tryz.func90, Tryz.ntmps90
  try dsimp only [List.append]
  go_wp2_with (first | (go_at_call 53; refine (port_ok i _ HH.out HI.out).mono ?_; rintro e w' ⟨rfl, rfl⟩) | (go_at_call 63; refine (isline_at li false HL.out _ HH.out).mono ?_; rintro e w' ⟨rfl, rfl⟩))
  go_ret
  exact ⟨rfl, rfl⟩
theorem zup_no (k : Int)  (w : World) (h : Msd W w c z L en es xs) (hk : inB k c.co = false) : Calls Tryz.prog 19 #[.pointer (some ⟨z.sy, 0, none⟩), .int .i64 k] w fun e w' => e = .returned (.int .i64 1) ∧ w = w' := by
  have HH := Lib.hid h
  have HK := Lib.hid hk
  clear h hk
  go_enter Tryz.func19, Tryz.ntmps19
  try dsimp only [List.append]
  go_wp2_with (first | (go_at_call 53; refine (port_no k _ HH.out HK.out).mono ?_; rintro e w' ⟨rfl, rfl⟩))
  go_ret
  exact ⟨rfl, rfl⟩
theorem zflush_kind (i : Nat) (li kd : Int) (w : World) (h : Msd W w c z L en es xs) (hi : i < c.co) (hl : inB li c.li = true) (h4 : kd ≠ 4) (h5 : kd ≠ 5) : Calls Tryz.prog 90 #[.pointer (some ⟨z.sy, 0, none⟩), .int .i64 i, .int .i64 li, .int .i64 kd] w fun e w' => e = .returned (.int .i64 1) ∧ w = w' := by
  have HH := Lib.hid h
  have HI := Lib.hid hi
  have HL := Lib.hid hl
  have t4 : (kd != 4) = true := by simpa using h4
  have t5 : (kd != 5) = true := by simpa using h5
  clear h hi hl h4 h5
  go_enter Tryz.func90, Tryz.ntmps90
  try dsimp only [List.append]
  go_wp2_with (first | (go_at_call 53; refine (port_ok i _ HH.out HI.out).mono ?_; rintro e w' ⟨rfl, rfl⟩) | (go_at_call 63; refine (isline_at li true HL.out _ HH.out).mono ?_; rintro e w' ⟨rfl, rfl⟩))
  go_ret
  exact ⟨rfl, rfl⟩
theorem zflush_4 (i : Nat) (li : Int) (p : Po) (x : Pt) (w : World) (h : Msd W w c z L en es xs) (hT : Tab W) (hy : L[i]? = some (p, x)) (hl : inB li c.li = true) (hq : x.up.length < 1000) (hm : mg (ms4 4 li false false) = true) :
    Calls Tryz.prog 90 #[.pointer (some ⟨z.sy, 0, none⟩), .int .i64 i, .int .i64 li, .int .i64 4] w fun e w' => e = .returned (.int .i64 0) ∧ ∃ p', MTo W w c z L z (L.set i (p', { x with up := x.up ++ [ms4 4 li false false] })) en es xs w' := by
  have hi : i < c.co := by rw [← h.cores]; exact (List.getElem?_eq_some_iff.1 hy).1
  have HH := Lib.hid h
  have HI := Lib.hid hi
  have HL := Lib.hid hl
  have HA := Lib.hid (fun w1 (c1 : Chg [] w w1) => (h.keep c1).ask_up hT hy (ms4 4 li false false) hq hm)
  clear h hi hl hT hq hm hy
  go_enter Tryz.func90, Tryz.ntmps90
  try dsimp only [List.append]
  go_wp2_with (first | (go_at_call 53; refine (port_ok i _ HH.out HI.out).mono ?_; rintro e w' ⟨rfl, rfl⟩) | (go_at_call 63; refine (isline_at li true HL.out _ HH.out).mono ?_; rintro e w' ⟨rfl, rfl⟩))
  refine (HA.out _ (Chg.refl _ _)).mono ?_
  rintro e w2 ⟨rfl, p', _, M⟩
  have HN := Lib.hid M
  clear M
  go_wp2_with fail
  go_ret
  exact ⟨rfl, p', HN.out⟩
theorem zflush_5 (i : Nat) (li : Int) (p : Po) (x : Pt) (w : World) (h : Msd W w c z L en es xs) (hT : Tab W) (hy : L[i]? = some (p, x)) (hl : inB li c.li = true) (hq : x.up.length < 1000) (hm : mg (ms4 5 li false false) = true) :
    Calls Tryz.prog 90 #[.pointer (some ⟨z.sy, 0, none⟩), .int .i64 i, .int .i64 li, .int .i64 5] w fun e w' => e = .returned (.int .i64 0) ∧ ∃ p', MTo W w c z L z (L.set i (p', { x with up := x.up ++ [ms4 5 li false false] })) en es xs w' := by
  have hi : i < c.co := by rw [← h.cores]; exact (List.getElem?_eq_some_iff.1 hy).1
  have HH := Lib.hid h
  have HI := Lib.hid hi
  have HL := Lib.hid hl
  have HA := Lib.hid (fun w1 (c1 : Chg [] w w1) => (h.keep c1).ask_up hT hy (ms4 5 li false false) hq hm)
  clear h hi hl hT hq hm hy
  go_enter Tryz.func90, Tryz.ntmps90
  try dsimp only [List.append]
  go_wp2_with (first | (go_at_call 53; refine (port_ok i _ HH.out HI.out).mono ?_; rintro e w' ⟨rfl, rfl⟩) | (go_at_call 63; refine (isline_at li true HL.out _ HH.out).mono ?_; rintro e w' ⟨rfl, rfl⟩))
  refine (HA.out _ (Chg.refl _ _)).mono ?_
  rintro e w2 ⟨rfl, p', _, M⟩
  have HN := Lib.hid M
  clear M
  go_wp2_with fail
  go_ret
  exact ⟨rfl, p', HN.out⟩
end
end Go.Proofs.YtcjoinhngdfdmaaGreatDoor
end
