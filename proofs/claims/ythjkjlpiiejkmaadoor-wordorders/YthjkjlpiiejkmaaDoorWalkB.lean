/- WordOrders answers true for all arguments; condition: the table lies as its text lays it. -/
import Derived.Test.YthjkjlpiiejkmaaDoorUp
namespace Go.Proofs.YthjkjlpiiejkmaaDoor
open Go.RowKit

theorem pw_inj (a b : Nat) (h : pw a = pw b) : a = b := by
  unfold pw at h
  have h2 : 2 ^ a = 2 ^ b := by omega
  rcases Nat.lt_trichotomy a b with h3 | h3 | h3
  · have := Nat.pow_lt_pow_right (show 1 < 2 by decide) h3; omega
  · exact h3
  · have := Nat.pow_lt_pow_right (show 1 < 2 by decide) h3; omega

set_option maxHeartbeats 1000000 in
theorem walk_wordOrders (n : Int) (w : World) (hT : Tab w) (hn : -9223372036854775808 ≤ n ∧ n ≤ 9223372036854775807) :
    Calls Tryd.prog 4 #[.int .i64 n] w fun e w' => e = .returned (.bool true) ∧ Below w.heap.size w w' := by
  have he := fun w => Lib.run_eql_iface_int (P := Tryd.prog) w (t := 25) (tx := 30) (k := .i64) 1 1 Tryd.underlying25 (by kernel_rfl) Tryd.underlying30
  by_cases hex : ∃ k : Nat, k ≤ 62 ∧ n = pw k
  · obtain ⟨k, hk, rfl⟩ := hex
    have hp := pw_pos k
    have hp2 := pw_le k hk
    go_enter Tryd.func4, Tryd.ntmps4
    go_wp2_with fail
    refine (up_any _ hT).mono ?_
    rintro e w1 ⟨rfl, hbel⟩
    go_wp2_with fail
    refine (order_yes k _ (hT.below hbel (Nat.le_refl _)) hk).mono ?_
    rintro e w2 ⟨rfl, hw⟩
    obtain rfl := hw.symm
    clear hw
    go_wp2
    go_loop [6] (fun i => ∃ j : Nat, j ≤ k ∧ i = .int .i64 j) (fun i => k - (intOf i).toNat)
    case atStart => exact ⟨0, Nat.zero_le _, rfl⟩
    case round =>
      obtain ⟨j, hj, rfl⟩ := hrel
      by_cases hjk : j < k
      · have hne : (pw k == pw j) = false := by
          simp only [beq_eq_false_iff_ne, ne_eq]
          intro h; have := pw_inj _ _ h; omega
        go_wp2_with (go_at_call 19; refine (power_any j _ (by omega)).mono ?_; rintro e w2 ⟨rfl, hw⟩; obtain rfl := hw.symm; clear hw)
        go_round
        case rel => exact ⟨j + 1, by omega, by go_num⟩
        case measure => simp [intOf]; omega
      · have : j = k := by omega
        subst this
        go_wp2_with (go_at_call 19; refine (power_any j _ (by omega)).mono ?_; rintro e w2 ⟨rfl, hw⟩; obtain rfl := hw.symm; clear hw)
        go_ret
        exact ⟨rfl, hbel⟩
  · have hno : ∀ k : Nat, k ≤ 62 → n ≠ pw k := fun k hk h => hex ⟨k, hk, h⟩
    have HN : Hid _ := hno
    clear hex hno
    go_enter Tryd.func4, Tryd.ntmps4
    go_wp2_with fail
    refine (up_any _ hT).mono ?_
    rintro e w1 ⟨rfl, hbel⟩
    go_wp2_with fail
    refine (order_no n _ hn HN.out).mono ?_
    rintro e w2 ⟨rfl, hw⟩
    obtain rfl := hw.symm
    clear hw
    go_wp2
    go_loop [6] (fun i => ∃ j : Nat, j ≤ 63 ∧ i = .int .i64 j) (fun i => 63 - (intOf i).toNat)
    case atStart => exact ⟨0, Nat.zero_le _, rfl⟩
    case round =>
      obtain ⟨j, hj, rfl⟩ := hrel
      by_cases hjk : j < 63
      · have hne : (n == pw j) = false := by
          simp only [beq_eq_false_iff_ne, ne_eq]
          exact HN.out j (by omega)
        go_wp2_with (go_at_call 19; refine (power_any j _ (by omega)).mono ?_; rintro e w2 ⟨rfl, hw⟩; obtain rfl := hw.symm; clear hw)
        go_round
        case rel => exact ⟨j + 1, by omega, by go_num⟩
        case measure => simp [intOf]; omega
      · have : j = 63 := by omega
        subst this
        go_wp2
        go_ret
        exact ⟨rfl, hbel⟩
end Go.Proofs.YthjkjlpiiejkmaaDoor
