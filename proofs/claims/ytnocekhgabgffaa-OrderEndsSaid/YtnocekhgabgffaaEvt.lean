/- Events and their cells. No condition. -/
import Derived.Test.YtnocekhgabgffaaSeq
namespace Go.Proofs.Ytnocekhgabgffaa
open Go.RowKit
set_option linter.unusedVariables false
set_option maxHeartbeats 1000000

/-! ### Events -/
structure Ev where
  kd : Int
  co : Int
  li : Int
  wo : Int
  va : Int
deriving DecidableEq
def Ev.enc (e : Ev) : List Value := [.int .i64 e.kd, .int .i64 e.co, .int .i64 e.li, .int .i64 e.wo, .int .u64 e.va]
def evc (e : Ev) : Array Value := (Ev.enc e).toArray

def evZ : Ev := ⟨0, 0, 0, 0, 0⟩
theorem Ev.len (e : Ev) : (Ev.enc e).length = 5 := rfl
theorem Ev.one (e : Ev) : ∀ v ∈ Ev.enc e, v.oneCell' = true := by
  intro v hv
  simp only [Ev.enc, List.mem_cons, List.not_mem_nil, or_false] at hv
  rcases hv with rfl | rfl | rfl | rfl | rfl <;> rfl
theorem evc_size (e : Ev) : (evc e).size = 5 := by simp [evc, Ev.enc]
theorem evc_one (e : Ev) : allOne (evc e) := allOne_list _ (List.all_eq_true.2 (Ev.one e))
theorem evc_kd (e : Ev) : (evc e)[0]? = some (.int .i64 e.kd) := rfl
theorem evc_co (e : Ev) : (evc e)[1]? = some (.int .i64 e.co) := rfl
theorem evc_li (e : Ev) : (evc e)[2]? = some (.int .i64 e.li) := rfl
theorem evc_wo (e : Ev) : (evc e)[3]? = some (.int .i64 e.wo) := rfl
theorem evc_va (e : Ev) : (evc e)[4]? = some (.int .u64 e.va) := rfl
theorem evc_lit (k c l o v : Int) : (#[.int .i64 k, .int .i64 c, .int .i64 l, .int .i64 o, .int .u64 v] : Array Value) = evc ⟨k, c, l, o, v⟩ := rfl
theorem evc_z : evc ⟨0, 0, 0, 0, 0⟩ = evc evZ := rfl
theorem evc_set0 (e : Ev) (v : Int) : (evc e).setIfInBounds 0 (.int .i64 v) = evc ⟨v, e.co, e.li, e.wo, e.va⟩ := by simp [evc, Ev.enc]
theorem evc_set1 (e : Ev) (v : Int) : (evc e).setIfInBounds 1 (.int .i64 v) = evc ⟨e.kd, v, e.li, e.wo, e.va⟩ := by simp [evc, Ev.enc]
theorem evc_set2 (e : Ev) (v : Int) : (evc e).setIfInBounds 2 (.int .i64 v) = evc ⟨e.kd, e.co, v, e.wo, e.va⟩ := by simp [evc, Ev.enc]
theorem evc_set3 (e : Ev) (v : Int) : (evc e).setIfInBounds 3 (.int .i64 v) = evc ⟨e.kd, e.co, e.li, v, e.va⟩ := by simp [evc, Ev.enc]
theorem evc_set4 (e : Ev) (v : Int) : (evc e).setIfInBounds 4 (.int .u64 v) = evc ⟨e.kd, e.co, e.li, e.wo, v⟩ := by simp [evc, Ev.enc]
theorem evZ_kd : evZ.kd = 0 := rfl
theorem evZ_co : evZ.co = 0 := rfl
theorem evZ_li : evZ.li = 0 := rfl
theorem evZ_wo : evZ.wo = 0 := rfl
theorem evZ_va : evZ.va = 0 := rfl
theorem evc_ne (e : Ev) : (evc e = #[]) = False := eq_false (fun h => by have := congrArg Array.size h; rw [evc_size] at this; cases this)
theorem evc_enc (e : Ev) : evc e = (Ev.enc e).toArray := rfl
theorem fold_evc (C : Array Value) (e : Ev) (h : C.size = 5) : Array.foldl (fun cs y => cs.setIfInBounds y.snd y.fst) C (evc e).zipIdx 0 5 = evc e := fold_all _ _ _ (evc_size e) h
theorem sq_one_ev (e : Ev) : sq Ev.enc [e] [] = evc e := by simp [sq, cat, evc]


end Go.Proofs.Ytnocekhgabgffaa
