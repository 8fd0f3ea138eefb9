/- What the reference of layer 2 answers for May, set and Word, for all arguments. -/
import Derived.Test.YtjijgpdfoilijaaPBox
namespace Go.Proofs.Ytjijgpdfoilijaa
open Go.RowKit

theorem fits_one : fitsB 1 1 = true := by decide
set_option maxHeartbeats 1000000 in
theorem refSet_any (x : Nat) (at_ : Int) (b : Bool) (w : World) (hx : x < 18446744073709551616) (h : mayB at_ 1 = true) :
    Calls Try.prog 31 #[.int .u64 x, .int .i64 at_, .bool b] w fun e w' => e = .returned (.int .u64 (if b then (pt x at_.toNat 1 1 : Nat) else (x : Nat))) ∧ w' = w := by
  cases b
  · go_enter Try.func31, Try.ntmps31
    go_wp2
    go_ret
    exact ⟨rfl, rfl⟩
  · go_enter Try.func31, Try.ntmps31
    go_wp2_with (go_at_call 30; refine (refPut_any x 1 _ 1 _ hx (by decide) h fits_one).mono ?_; rintro e w1 ⟨rfl, hw⟩; obtain rfl := hw.symm; clear hw)
    go_ret
    exact ⟨rfl, rfl⟩

/-- The same, where the bit was 0. -/
theorem refSet_at (x a : Nat) (b : Bool) (w : World) (hx : x < 18446744073709551616) (ha : a < 64) (h0 : fld x a 1 = 0) :
    Calls Try.prog 31 #[.int .u64 x, .int .i64 a, .bool b] w fun e w' => e = .returned (.int .u64 ((x + bn b * 2 ^ a : Nat) : Int)) ∧ w' = w := by
  have := refSet_any x a b w hx (by unfold mayB; rw [decide_eq_true_iff]; omega)
  cases b
  · simpa [bn] using this
  · rw [if_pos rfl, Int.toNat_natCast, pt_add x a 1 1 h0] at this
    simpa [bn] using this
theorem refPut_at (x a n v : Nat) (w : World) (hx : x < 18446744073709551616) (hn : 1 ≤ n) (ha : a + n ≤ 64) (hv : v < 2 ^ n) (h0 : fld x a n = 0) :
    Calls Try.prog 30 #[.int .u64 x, .int .i64 a, .int .i64 n, .int .u64 v] w fun e w' => e = .returned (.int .u64 ((x + v * 2 ^ a : Nat) : Int)) ∧ w' = w := by
  have hp : 2 ^ n ≤ 2 ^ 64 := Nat.pow_le_pow_right (by decide) (by omega)
  simp only [Nat.reducePow] at hp
  have := refPut_any x v a n w hx (by omega) (by unfold mayB; rw [decide_eq_true_iff]; omega) (by unfold fitsB lowN; rw [decide_eq_true_iff, Int.toNat_natCast]; omega)
  rw [Int.toNat_natCast, Int.toNat_natCast, pt_add x a n v h0] at this
  exact this
end Go.Proofs.Ytjijgpdfoilijaa
