/- Which messages have a form: walked. No condition. -/
import Derived.Test.YtadeoflkppiflaaDoorMsg
namespace Go.Proofs.YtadeoflkppiflaaDoor
open Go.RowKit
set_option linter.unusedVariables false
set_option maxHeartbeats 1000000
attribute [local go_sem ↓] append_appS copy_copS clear_clrS make_mkS slice_slS cell_row frozen_row loadLine storeLine loadMsg storeMsg loadHas storeHas heap_drew heap_drewN heap_alloc heap_past heap_setCell heap_putRow vs_get msc_kd msc_li msc_di msc_ke
attribute [local go_sem] rowCell_some rowFrozen_some rowHas_some rowIn_some rowPart_full rowPart_lit rowPut_full rowPut_lit rowSet_some size_putRow vs_size vs_one wideLine wideMsg wideHas run_loadS run_storeS run_appS run_copS run_clrS run_mkS run_slS loadW_at storeW_at fit_all fit_le one_int one_bool one_pointer one_slice allOne_list putRow_new ne_size1 ne_size2 ne_size3 ne_size4 zero8_length line_eq lit8 msc_size msc_one msc_part msc_in fold_msc
attribute [local simp ↓] heap_drew heap_drewN heap_alloc heap_past heap_setCell heap_putRow
attribute [local simp] rowCell_some rowFrozen_some rowHas_some rowIn_some rowPart_full rowPart_lit rowPut_full rowPut_lit rowSet_some size_putRow vs_size fit_all putRow_new ne_size1 ne_size2 ne_size3 ne_size4 zero8_length msc_size

theorem mgood_in (m : Ms) (k : Nat) (w : World) (hk : m.kd = k) (h1 : 1 ≤ k) (h2 : k ≤ 14) (hl : lineB m.li = true) (ht : Tab w) : Calls Tryd.prog 40 #[.agg (msc m)] w fun e w' => e = .returned (.bool (mg m)) ∧ Chg [] w w' := by
  have oh := ht.old
  obtain ⟨t, f, ht⟩ := ht
  obtain ⟨ri, rp⟩ := tab_row k (by omega) t f
  obtain ⟨kd, li, di, ke, l, h8⟩ := m
  simp only at hk hl
  subst hk
  have hkd : kindB (k : Int) = true := by simp [kindB]; omega
  have hmg : mg ⟨k, li, di, ke, l, h8⟩ = ((!di || mayD k) && (!ke || mayK k) && (mayW k || di || l == [0, 0, 0, 0, 0, 0, 0, 0])) := by simp [mg, hkd, hl]
  have he := fun W => line_eq l [0, 0, 0, 0, 0, 0, 0, 0] h8 rfl W
  have g0 : (0 : Int) ≤ (k : Int) := by omega
  have g1 : (k : Int) < 15 := by omega
  have g2 : k < 15 := by omega
  rw [hmg]
  have HK := Lib.hid hkd
  have HL := Lib.hid hl
  clear hmg h1 h2 hkd hl
  generalize mayD (k : Int) = d at rp ⊢
  generalize mayK (k : Int) = e at rp ⊢
  generalize mayW (k : Int) = s at rp ⊢
  have hc : (di = true ∧ d = false) ∨ ((di = false ∨ (di = true ∧ d = true)) ∧ ((ke = true ∧ e = false) ∨ ((ke = false ∨ (ke = true ∧ e = true)) ∧ (s = true ∨ s = false)))) := by
    cases di <;> cases d <;> cases ke <;> cases e <;> cases s <;> simp
  rcases hc with ⟨rfl, rfl⟩ | ⟨rfl | ⟨rfl, rfl⟩, ⟨rfl, rfl⟩ | ⟨rfl | ⟨rfl, rfl⟩, rfl | rfl⟩⟩
  all_goals
    go_enter Tryd.func40, Tryd.ntmps40
    try dsimp only [List.append]
    go_wp2_with (go_at_call 64; refine (mwithin_any _ _ _ _).mono ?_; rintro e w' ⟨rfl, rfl⟩; (try rw [show (decide ((1 : Int) ≤ (k : Int)) && decide ((k : Int) ≤ 14)) = true from HK.out]); (try rw [show (decide (0 ≤ li) && decide (li ≤ 63)) = true from HL.out]))
    go_ret
    exact ⟨by simp, ((((Chg.refl _ _).alloc _).alloc _)).putRow _ _ _ (.inr (by simp))⟩
theorem mgood_any (m : Ms) (w : World) (ht : Tab w) : Calls Tryd.prog 40 #[.agg (msc m)] w fun e w' => e = .returned (.bool (mg m)) ∧ Chg [] w w' := by
  cases h1 : kindB m.kd
  · exact mgood_kind m w h1
  cases h2 : lineB m.li
  · exact mgood_line m w h1 h2
  have h3 : 1 ≤ m.kd ∧ m.kd ≤ 14 := by simpa [kindB] using h1
  exact mgood_in m m.kd.toNat w (by omega) (by omega) (by omega) h2 ht
end Go.Proofs.YtadeoflkppiflaaDoor
