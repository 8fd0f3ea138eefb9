/- WalkPlaces: the walk. -/
import Derived.Test.YteoblaopbhdneaaKEq
namespace Go.Proofs.Yteoblaopbhdneaa
open Go.RowKit

set_option maxHeartbeats 2000000 in
theorem walk_walkPlaces (l page : Int) (w : World) (_hl : -9223372036854775808 ≤ l ∧ l ≤ 9223372036854775807) (_hp : -9223372036854775808 ≤ page ∧ page ≤ 9223372036854775807) :
    Calls Try.prog 3 #[.int .i64 l, .int .i64 page] w fun e w' => e = .returned (.bool true) ∧ Below w.heap.size w w' := by
  have hq := eq_err 1
  by_cases h : (0 ≤ l ∧ l ≤ 3) ∧ (0 ≤ page ∧ page ≤ 4095)
  · obtain ⟨⟨a1, a2⟩, b1, b2⟩ := h
    obtain ⟨x, rfl⟩ := Int.eq_ofNat_of_zero_le a1
    obtain ⟨y, rfl⟩ := Int.eq_ofNat_of_zero_le b1
    have hP := fun w => place_yes x y w (by omega) (by omega)
    have hR := fun w => refPlace_at x y w (by omega) (by omega)
    have t1 : ¬ (3 < (x : Int)) := by omega
    have t2 : ¬ (4095 < (y : Int)) := by omega
    go_enter Try.func3, Try.ntmps3
    go_wp2_with fail
    refine (up_any _).mono ?_
    rintro e w1 ⟨rfl, L1⟩
    go_wp2_with fail
    refine (hP _).mono ?_
    rintro e w2 ⟨rfl, d, hw⟩
    have L2 : Below w.heap.size w w2 := by rw [hw]; exact below_drewN L1 d
    clear hw L1
    go_wp2_with (go_at_call 11; refine (hR _).mono ?_; rintro e w3 ⟨rfl, hw⟩; obtain rfl := hw.symm; clear hw)
    go_ret
    exact ⟨rfl, L2⟩
  · have hP := fun w => place_no l page w (by unfold pageB; rw [decide_eq_false_iff_not]; omega)
    have hc : l < 0 ∨ (¬ l < 0 ∧ 3 < l) ∨ (¬ l < 0 ∧ ¬ 3 < l ∧ page < 0) ∨ (¬ l < 0 ∧ ¬ 3 < l ∧ ¬ page < 0 ∧ 4095 < page) := by omega
    clear h
    rcases hc with h1 | ⟨h1, h2⟩ | ⟨h1, h2, h3⟩ | ⟨h1, h2, h3, h4⟩
    all_goals
      go_enter Try.func3, Try.ntmps3
      go_wp2_with fail
      refine (up_any _).mono ?_
      rintro e w1 ⟨rfl, L1⟩
      go_wp2_with fail
      refine (hP _).mono ?_
      rintro e w2 ⟨rfl, hw⟩
      rw [← hw] at L1
      clear hw
      go_wp2
      go_ret
      exact ⟨rfl, L1⟩
end Go.Proofs.Yteoblaopbhdneaa
