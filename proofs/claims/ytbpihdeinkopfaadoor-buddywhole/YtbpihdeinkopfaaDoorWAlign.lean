/- What word.Down answers where it may be asked. -/
import Derived.Test.YtbpihdeinkopfaaDoorZ
namespace Go.Proofs.YtbpihdeinkopfaaDoor
open Go.RowKit

def alignB (n o : Int) : Bool := decide (0 ≤ n ∧ n ≤ 1099511627776 ∧ 0 ≤ o ∧ o ≤ 20)
set_option maxHeartbeats 400000 in
theorem mayAlign_any (n o : Int) (w : World) :
    Calls Tryd.prog 52 #[.int .i64 n, .int .i64 o] w fun e w' => e = .returned (.bool (alignB n o)) ∧ w' = w := by
  go_enter Tryd.func52, Tryd.ntmps52
  go_wp2
  all_goals go_ret
  all_goals refine ⟨ret_bool ?_, rfl⟩
  all_goals (rw [Bool.eq_iff_iff]; simp [alignB]; try omega)

set_option maxHeartbeats 400000 in
theorem alignDown_any (n o : Int) (w : World) (hn : 0 ≤ n) (hn' : n ≤ 2199023255552) (ho : 0 ≤ o) (ho' : o ≤ 20) :
    Calls Tryd.prog 53 #[.int .i64 n, .int .i64 o] w fun e w' => e = .returned (.int .i64 (n / 2 ^ o.toNat * 2 ^ o.toNat)) ∧ w' = w := by
  go_enter Tryd.func53, Tryd.ntmps53
  go_wp2
  go_ret
  refine ⟨ret_int (Go.IntWalk.wrap64_in _ ?_), rfl⟩
  have h1 : 0 ≤ n / 2 ^ o.toNat * 2 ^ o.toNat := Int.mul_nonneg (Int.ediv_nonneg hn (Int.le_of_lt (Int.pow_pos (by decide)))) (Int.le_of_lt (Int.pow_pos (by decide)))
  have h2 : n / 2 ^ o.toNat * 2 ^ o.toNat ≤ n := Int.ediv_mul_le _ (Int.ne_of_gt (Int.pow_pos (by decide)))
  omega

set_option maxHeartbeats 400000 in
theorem down_yes (n o : Int) (w : World) (h : alignB n o = true) :
    Calls Tryd.prog 48 #[.int .i64 n, .int .i64 o] w fun e w' => e = .returned (.tuple #[.int .i64 (n / 2 ^ o.toNat * 2 ^ o.toNat), .nilIface]) ∧ w' = w := by
  have hb : 0 ≤ n ∧ n ≤ 1099511627776 ∧ 0 ≤ o ∧ o ≤ 20 := by simpa [alignB] using h
  obtain ⟨h1, h2, h3, h4⟩ := hb
  go_enter Tryd.func48, Tryd.ntmps48
  go_wp2_with (first | (go_at_call 52; refine (mayAlign_any _ _ _).mono ?_; rintro e w1 ⟨rfl, hw⟩; obtain rfl := hw.symm; clear hw) | (go_at_call 53; refine (alignDown_any _ _ _ h1 (by omega) h3 h4).mono ?_; rintro e w1 ⟨rfl, hw⟩; obtain rfl := hw.symm; clear hw))
  go_ret2
  exact ⟨rfl, rfl⟩
end Go.Proofs.YtbpihdeinkopfaaDoor
