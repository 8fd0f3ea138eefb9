/- Powers of two: the reference's Power. -/
import Derived.Test.YtbpihdeinkopfaaDoorZ
namespace Go.Proofs.YtbpihdeinkopfaaDoor
open Go.RowKit

/-- Powers of two that fit. -/
def pw (o : Nat) : Int := ((2 ^ o : Nat) : Int)
theorem pw_pos (o : Nat) : 0 < pw o := by unfold pw; have := Nat.two_pow_pos o; omega
theorem pw_succ (o : Nat) : pw (o + 1) = pw o * 2 := by unfold pw; rw [Nat.pow_succ]; simp
theorem pw_le (o : Nat) (h : o ≤ 62) : pw o ≤ 4611686018427387904 := by
  unfold pw
  have := Nat.pow_le_pow_right (show 0 < 2 by decide) h
  simp only [Nat.reducePow] at this
  omega

set_option maxHeartbeats 400000 in
theorem power_any (o : Nat) (w : World) (ho' : o ≤ 62) :
    Calls Tryd.prog 22 #[.int .i64 o] w fun e w' => e = .returned (.int .i64 (pw o)) ∧ w' = w := by
  go_enter Tryd.func22, Tryd.ntmps22
  go_wp2
  go_loop [3, 4] (fun p i => ∃ k : Nat, k ≤ o ∧ i = .int .i64 k ∧ p = .int .i64 (pw k)) (fun _ i => o - (intOf i).toNat)
  case atStart => exact ⟨0, Nat.zero_le _, rfl, rfl⟩
  case round =>
    obtain ⟨k, hk, rfl, rfl⟩ := hrel
    have h1 := pw_pos k
    by_cases hlt : k < o
    · have h2 := pw_le (k + 1) (by omega)
      have h3 := pw_succ k
      have HP : Hid (pw (k + 1) = pw k * 2) := h3
      have h4 : pw k * 2 ≤ 4611686018427387904 := by omega
      clear h3 h2
      go_wp2
      go_round
      case rel => exact ⟨k + 1, by omega, by go_num, by rw [HP.out]⟩
      case measure => simp [intOf]; omega
    · have : k = o := by omega
      subst this
      go_wp2
      go_ret
      exact ⟨rfl, rfl⟩
theorem power_int (z : Int) (w : World) (h0 : 0 ≤ z) (h : z ≤ 62) :
    Calls Tryd.prog 22 #[.int .i64 z] w fun e w' => e = .returned (.int .i64 (pw z.toNat)) ∧ w' = w := by
  have := power_any z.toNat w (by omega)
  rwa [show ((z.toNat : Nat) : Int) = z from by omega] at this

theorem pw_mod (f o : Nat) : ((f : Int) % pw o = 0) ↔ f % 2 ^ o = 0 := by unfold pw; omega
theorem pw_add (f t o : Nat) : ((f : Int) + pw o ≤ t) ↔ f + 2 ^ o ≤ t := by unfold pw; omega
theorem pw_small (o : Nat) (h : o ≤ 21) : pw o ≤ 2097152 := by
  unfold pw
  have := Nat.pow_le_pow_right (show 0 < 2 by decide) h
  simp only [Nat.reducePow] at this
  omega
theorem toNat_succ (o : Nat) : ((o : Int) + 1).toNat = o + 1 := by omega
end Go.Proofs.YtbpihdeinkopfaaDoor
