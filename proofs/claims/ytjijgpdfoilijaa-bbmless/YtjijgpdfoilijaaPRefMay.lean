/- What the reference's May answers, for all arguments. -/
import Derived.Test.YtjijgpdfoilijaaPBox
namespace Go.Proofs.Ytjijgpdfoilijaa
open Go.RowKit

set_option maxHeartbeats 4000000 in
theorem refMay_any (l : Int) (d : Dsc) (w : World) :
    Calls Try.prog 15 #[.int .i64 l, dv d] w fun e w' => e = .returned (.bool (mayD l d)) ∧ Below w.heap.size w w' := by
  obtain ⟨k, f, a, b, c, o, s⟩ := d
  unfold dv
  simp only
  go_enter Try.func15, Try.ntmps15
  go_wp2
  all_goals go_ret
  all_goals refine ⟨ret_bool ?_, (Below.refl _ _).alloc (Nat.le_refl _) _⟩
  all_goals (unfold mayD; simp only [beq_iff_eq, beq_eq_false_iff_ne, ne_eq, Bool.not_eq_true] at *)
  all_goals (first
    | (rw [decide_eq_false (by omega)]; rfl)
    | (rw [decide_eq_true (by omega), Bool.true_and]; simp [*]; done)
    | (rw [decide_eq_true (by omega), Bool.true_and, Bool.eq_iff_iff]; simp [*]; done)
    | (rw [decide_eq_true (by omega), Bool.true_and, Bool.eq_iff_iff]; simp [*]; omega))
end Go.Proofs.Ytjijgpdfoilijaa
