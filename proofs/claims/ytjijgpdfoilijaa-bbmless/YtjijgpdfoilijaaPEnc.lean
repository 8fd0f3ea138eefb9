/- What pte.Encode answers, for all arguments. -/
import Derived.Test.YtjijgpdfoilijaaPWord
import Derived.Laws.StructEq
import Derived.Deep.RegionHeld3
namespace Go.Proofs.Ytjijgpdfoilijaa
open Go.RowKit

/-- Are two descriptors the same? -/
def eqD (a b : Dsc) : Bool := a.kind == b.kind && (a.frame == b.frame && (a.wr == b.wr && (a.ex == b.ex && (a.sn == b.sn && (a.fo == b.fo && a.so == b.so)))))
theorem eqD_iff {a b : Dsc} : eqD a b = true ↔ a = b := by
  cases a; cases b
  simp [eqD]
theorem eqD_false {a b : Dsc} : eqD a b = false ↔ a ≠ b := by
  rw [← Bool.not_eq_true, eqD_iff]
theorem eqD_run (a b : Dsc) (w : World) : (Op.equalIn 10000 37 (dv a) (dv b)).run Try.prog w = .ok (eqD a b) w := by
  have hi : ∀ (n : Nat) (x y : Int) (w : World), (Op.equalIn (n + 1) 3 (.int .i64 x) (.int .i64 y)).run Try.prog w = .ok (x == y) w := fun n x y w => run_equalIn_int w n 3 .i64 .i64 x y Try.underlying3
  have hb : ∀ (n : Nat) (x y : Bool) (w : World), (Op.equalIn (n + 1) 4 (.bool x) (.bool y)).run Try.prog w = .ok (x == y) w := fun n x y w => run_equalIn_bool' w n 4 x y Try.underlying4
  unfold dv
  rw [run_equalIn_agg w 9999 _ _ _ (by kernel_rfl) (by kernel_rfl)]
  obtain ⟨a1, a2, a3, a4, a5, a6, a7⟩ := a
  obtain ⟨b1, b2, b3, b4, b5, b6, b7⟩ := b
  unfold eqD
  simp only
  simp [go_sem, Program.fieldsOf, Try.underlying37, Op.eqFields, hi, hb]
  by_cases h1 : a1 = b1
  · by_cases h2 : a2 = b2
    · by_cases h3 : a3 = b3
      · by_cases h4 : a4 = b4
        · by_cases h5 : a5 = b5
          · by_cases h6 : a6 = b6
            · by_cases h7 : a7 = b7 <;> simp [h1, h2, h3, h4, h5, h6, h7]
            · simp [h1, h2, h3, h4, h5, h6]
          · simp [h1, h2, h3, h4, h5]
        · simp [h1, h2, h3, h4]
      · simp [h1, h2, h3]
    · simp [h1, h2]
  · simp [h1]

theorem eql_dsc (a b : Dsc) (w : World) : (binOp .eql 37 (dv a) (dv b)).run Try.prog w = .ok (.bool (eqD a b)) w := by
  have := eqD_run a b w
  unfold dv at *
  rw [run_eql_struct, this]
  rfl
theorem neq_dsc (a b : Dsc) (w : World) : (binOp .neq 37 (dv a) (dv b)).run Try.prog w = .ok (.bool (!eqD a b)) w := by
  have := eqD_run a b w
  unfold dv at *
  rw [run_neq_struct, this]
  rfl

theorem mayD_lvl {l : Int} {d : Dsc} (h : mayD l d = true) : lvlB l = true ∧ d.kind ≠ 5 := by
  simp only [mayD, Bool.and_eq_true, decide_eq_true_eq] at h
  obtain ⟨⟨l0, l3, f0, f1, s0, s1⟩, h⟩ := h
  refine ⟨by unfold lvlB; rw [decide_eq_true_iff]; exact ⟨l0, l3⟩, fun h5 => ?_⟩
  rw [h5] at h
  simp at h

end Go.Proofs.Ytjijgpdfoilijaa
