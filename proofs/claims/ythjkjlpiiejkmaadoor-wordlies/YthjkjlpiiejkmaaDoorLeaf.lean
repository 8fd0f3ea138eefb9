/- What the small functions of package word and of the reference answer, each for all arguments within the bounds that its theorem names. -/
import Derived.Test.YthjkjlpiiejkmaaDoorRows
import Derived.Test.YthjkjlpiiejkmaaDoorMath
import Derived.WalkKit
import Derived.WalkSpells
import Derived.WalkLawsBesides
import Derived.BigQuiet
import Derived.Deep.QuietTactic
namespace Go.Proofs.YthjkjlpiiejkmaaDoor
open Go.RowKit

theorem ret_bool {a b : Bool} (h : a = b) : Ending.returned (.bool a) = .returned (.bool b) := by rw [h]
theorem ret_int {k : IntKind} {a b : Int} (h : a = b) : Ending.returned (.int k a) = .returned (.int k b) := by rw [h]

set_option maxHeartbeats 400000 in
theorem mayField_any (a n : Int) (w : World) (ha : -9223372036854775808 ≤ a ∧ a ≤ 9223372036854775807) (hn : -9223372036854775808 ≤ n ∧ n ≤ 9223372036854775807) :
    Calls Tryd.prog 24 #[.int .i64 a, .int .i64 n] w fun e w' => e = .returned (.bool (mayB a n)) ∧ w' = w := by
  obtain ⟨ha, ha'⟩ := ha; obtain ⟨hn, hn'⟩ := hn
  go_enter Tryd.func24, Tryd.ntmps24
  go_wp2
  all_goals go_ret
  all_goals refine ⟨ret_bool ?_, rfl⟩
  all_goals (rw [Bool.eq_iff_iff]; simp [mayB]; try omega)

/-- The lowest n bits set. -/
def lowN (n : Int) : Int := ((2 ^ n.toNat - 1 : Nat) : Int)
theorem lowN_eq (n : Int) (hn : 1 ≤ n) (hn' : n ≤ 64) : (18446744073709551615 : Int) / 2 ^ (64 - n).toNat = lowN n := by
  have := low_eq n.toNat (by omega) (by omega)
  have e : (64 - n).toNat = 64 - n.toNat := by omega
  unfold lowN
  rw [← this, e]
  simp

set_option maxHeartbeats 400000 in
theorem lowBits_any (n : Int) (w : World) (hn : 1 ≤ n) (hn' : n ≤ 64) :
    Calls Tryd.prog 25 #[.int .i64 n] w fun e w' => e = .returned (.int .u64 (lowN n)) ∧ w' = w := by
  rw [← lowN_eq n hn hn']
  go_enter Tryd.func25, Tryd.ntmps25
  go_wp2
  go_ret
  exact ⟨rfl, rfl⟩

/-- A bit. -/
def bitN (x : Nat) (i : Int) : Int := ((x / 2 ^ i.toNat % 2 : Nat) : Int)
theorem bitN_eq (x : Nat) (i : Int) (hx : x < 18446744073709551616) : bits BinOp.and IntKind.u64 ((x : Int) / 2 ^ i.toNat) 1 = bitN x i := by
  have e : (x : Int) / 2 ^ i.toNat = ((x / 2 ^ i.toNat : Nat) : Int) := by simp
  rw [e, show (1 : Int) = ((1 : Nat) : Int) from rfl, u64_and_nat _ _ (Nat.lt_of_le_of_lt (Nat.div_le_self _ _) hx) (by decide), nat_mask1]
  rfl

set_option maxHeartbeats 400000 in
theorem bit_any (x : Nat) (i : Int) (w : World) (hx : x < 18446744073709551616) (hn : 0 ≤ i) (hn' : i ≤ 63) :
    Calls Tryd.prog 26 #[.int .u64 x, .int .i64 i] w fun e w' => e = .returned (.int .u64 (bitN x i)) ∧ w' = w := by
  rw [← bitN_eq x i hx]
  go_enter Tryd.func26, Tryd.ntmps26
  go_wp2
  go_ret
  exact ⟨rfl, rfl⟩

def alignB (n o : Int) : Bool := decide (0 ≤ n ∧ n ≤ 1099511627776 ∧ 0 ≤ o ∧ o ≤ 20)
set_option maxHeartbeats 400000 in
theorem mayAlign_any (n o : Int) (w : World) :
    Calls Tryd.prog 28 #[.int .i64 n, .int .i64 o] w fun e w' => e = .returned (.bool (alignB n o)) ∧ w' = w := by
  go_enter Tryd.func28, Tryd.ntmps28
  go_wp2
  all_goals go_ret
  all_goals refine ⟨ret_bool ?_, rfl⟩
  all_goals (rw [Bool.eq_iff_iff]; simp [alignB]; try omega)

set_option maxHeartbeats 400000 in
theorem alignDown_any (n o : Int) (w : World) (hn : 0 ≤ n) (hn' : n ≤ 2199023255552) (ho : 0 ≤ o) (ho' : o ≤ 20) :
    Calls Tryd.prog 29 #[.int .i64 n, .int .i64 o] w fun e w' => e = .returned (.int .i64 (n / 2 ^ o.toNat * 2 ^ o.toNat)) ∧ w' = w := by
  go_enter Tryd.func29, Tryd.ntmps29
  go_wp2
  go_ret
  refine ⟨ret_int (Go.IntWalk.wrap64_in _ ?_), rfl⟩
  have h1 : 0 ≤ n / 2 ^ o.toNat * 2 ^ o.toNat := Int.mul_nonneg (Int.ediv_nonneg hn (Int.le_of_lt (Int.pow_pos (by decide)))) (Int.le_of_lt (Int.pow_pos (by decide)))
  have h2 : n / 2 ^ o.toNat * 2 ^ o.toNat ≤ n := Int.ediv_mul_le _ (Int.ne_of_gt (Int.pow_pos (by decide)))
  omega

/-- Powers of two that fit. -/
def pw (o : Nat) : Int := ((2 ^ o : Nat) : Int)
theorem pw_pos (o : Nat) : 0 < pw o := by unfold pw; have := Nat.two_pow_pos o; omega
theorem pw_succ (o : Nat) : pw (o + 1) = pw o * 2 := by unfold pw; rw [Nat.pow_succ]; simp
theorem pw_le (o : Nat) (h : o ≤ 62) : pw o ≤ 4611686018427387904 := by
  unfold pw
  have := Nat.pow_le_pow_right (show 0 < 2 by decide) h
  simp only [Nat.reducePow] at this
  omega

set_option maxHeartbeats 400000 in
theorem power_any (o : Nat) (w : World) (ho' : o ≤ 62) :
    Calls Tryd.prog 19 #[.int .i64 o] w fun e w' => e = .returned (.int .i64 (pw o)) ∧ w' = w := by
  go_enter Tryd.func19, Tryd.ntmps19
  go_wp2
  go_loop [3, 4] (fun p i => ∃ k : Nat, k ≤ o ∧ i = .int .i64 k ∧ p = .int .i64 (pw k)) (fun _ i => o - (intOf i).toNat)
  case atStart => exact ⟨0, Nat.zero_le _, rfl, rfl⟩
  case round =>
    obtain ⟨k, hk, rfl, rfl⟩ := hrel
    have h1 := pw_pos k
    by_cases hlt : k < o
    · have h2 := pw_le (k + 1) (by omega)
      have h3 := pw_succ k
      have HP : Hid (pw (k + 1) = pw k * 2) := h3
      have h4 : pw k * 2 ≤ 4611686018427387904 := by omega
      clear h3 h2
      go_wp2
      go_round
      case rel => exact ⟨k + 1, by omega, by go_num, by rw [HP.out]⟩
      case measure => simp [intOf]; omega
    · have : k = o := by omega
      subst this
      go_wp2
      go_ret
      exact ⟨rfl, rfl⟩
end Go.Proofs.YthjkjlpiiejkmaaDoor
