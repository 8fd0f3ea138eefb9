/- What word.Order, word.Down and word.Up answer, for all arguments. -/
import Derived.Test.YthjkjlpiiejkmaaDoorFields
import Derived.LaidEql
namespace Go.Proofs.YthjkjlpiiejkmaaDoor
open Go.RowKit

theorem i64_and_nat (a b : Nat) (ha : a < 9223372036854775808) (hb : b < 9223372036854775808) : bits .and .i64 (a : Int) (b : Int) = ((a &&& b : Nat) : Int) := by
  have hx : a &&& b < 2 ^ 63 := Nat.and_lt_two_pow _ (by simpa using hb)
  show IntKind.i64.wrap ((BitVec.ofInt 64 (a : Int) &&& BitVec.ofInt 64 (b : Int)).toNat : Int) = _
  rw [BitVec.toNat_and, ofInt_u64 a (by omega), ofInt_u64 b (by omega)]
  simp only [IntKind.wrap, IntKind.signed, IntKind.bits]
  simp
  omega

theorem and_yes (k : Nat) (hk : k ≤ 62) : bits BinOp.and IntKind.i64 (pw k) (pw k - 1) = 0 := by
  have h2 := pw_le k hk
  have h1 := pw_pos k
  have e : pw k - 1 = ((2 ^ k - 1 : Nat) : Int) := by unfold pw; have := Nat.two_pow_pos k; omega
  rw [e, pw, i64_and_nat _ _ (by unfold pw at h2; omega) (by unfold pw at h2; omega), and_of_pow]
  rfl

theorem and_no (n : Int) (h1 : 1 ≤ n) (h2 : n ≤ 9223372036854775807) (h : ∀ k : Nat, k ≤ 62 → n ≠ pw k) : (bits BinOp.and IntKind.i64 n (n - 1) == 0) = false := by
  obtain ⟨m, rfl⟩ := Int.eq_ofNat_of_zero_le (show 0 ≤ n by omega)
  have e : (m : Int) - 1 = ((m - 1 : Nat) : Int) := by omega
  rw [e, i64_and_nat _ _ (by omega) (by omega)]
  simp only [beq_eq_false_iff_ne, ne_eq]
  intro h0
  have h0' : m &&& (m - 1) = 0 := by omega
  have hp := pow_of_and m (by omega) (by omega) h0'
  have hc := ctz_lt m (by omega) (by omega)
  refine h (Lib.ctz 64 m) ?_ (by unfold pw; rw [← hp])
  apply Nat.le_of_not_lt
  intro hlt
  have : 2 ^ 63 ≤ 2 ^ Lib.ctz 64 m := Nat.pow_le_pow_right (by decide) (by omega)
  simp only [Nat.reducePow] at this
  omega

set_option maxHeartbeats 400000 in
theorem order_yes (k : Nat) (w : World) (hT : Tab w) (hk : k ≤ 62) :
    Calls Tryd.prog 18 #[.int .i64 (pw k)] w fun e w' => e = .returned (.tuple #[.int .i64 k, .nilIface]) ∧ w' = w := by
  have h1 := pw_pos k
  have h2 := pw_le k hk
  have h3 := and_yes k hk
  have h4 : Calls Tryd.prog 27 #[.int .u64 (pw k)] w fun e w' => e = .returned (.int .i64 k) ∧ w' = w := by
    have := tz64_any (2 ^ k) (by unfold pw at h2; omega) w hT
    rwa [ctz_pow k (by omega)] at this
  go_enter Tryd.func18, Tryd.ntmps18
  go_wp2_with (go_at_call 27; refine h4.mono ?_; rintro e w1 ⟨rfl, hw⟩; obtain rfl := hw.symm)
  go_ret2
  exact ⟨rfl, rfl⟩

set_option maxHeartbeats 400000 in
theorem order_no (n : Int) (w : World) (hn : -9223372036854775808 ≤ n ∧ n ≤ 9223372036854775807) (h : ∀ k : Nat, k ≤ 62 → n ≠ pw k) :
    Calls Tryd.prog 18 #[.int .i64 n] w fun e w' => e = .returned (.tuple #[.int .i64 0, .iface 30 (.int .i64 1)]) ∧ w' = w := by
  by_cases h1 : n < 1
  · clear h
    go_enter Tryd.func18, Tryd.ntmps18
    go_wp2
    go_ret2
    exact ⟨rfl, rfl⟩
  · have hb := and_no n (by omega) hn.2 h
    have hb2 : (bits BinOp.and IntKind.i64 n (n - 1) != 0) = true := by simpa using hb
    have hr : -9223372036854775808 ≤ n - 1 := by omega
    clear h
    go_enter Tryd.func18, Tryd.ntmps18
    go_wp2
    go_ret2
    exact ⟨rfl, rfl⟩

set_option maxHeartbeats 400000 in
theorem down_yes (n o : Int) (w : World) (h : alignB n o = true) :
    Calls Tryd.prog 20 #[.int .i64 n, .int .i64 o] w fun e w' => e = .returned (.tuple #[.int .i64 (n / 2 ^ o.toNat * 2 ^ o.toNat), .nilIface]) ∧ ∃ d, w' = w.drewN d := by
  have hb : 0 ≤ n ∧ n ≤ 1099511627776 ∧ 0 ≤ o ∧ o ≤ 20 := by simpa [alignB] using h
  obtain ⟨h1, h2, h3, h4⟩ := hb
  go_enter Tryd.func20, Tryd.ntmps20
  go_wp2_with (first | (go_at_call 28; refine (mayAlign_any _ _ _).mono ?_; rintro e w1 ⟨rfl, hw⟩; obtain rfl := hw.symm) | (go_at_call 29; refine (alignDown_any _ _ _ h1 (by omega) h3 h4).mono ?_; rintro e w1 ⟨rfl, hw⟩; obtain rfl := hw.symm))
  go_ret2
  exact ⟨rfl, 0, rfl⟩
set_option maxHeartbeats 400000 in
theorem up_yes (n o : Int) (w : World) (h : alignB n o = true) :
    Calls Tryd.prog 21 #[.int .i64 n, .int .i64 o] w fun e w' => e = .returned (.tuple #[.int .i64 ((n + 2 ^ o.toNat - 1) / 2 ^ o.toNat * 2 ^ o.toNat), .nilIface]) ∧ ∃ d, w' = w.drewN d := by
  have hb : 0 ≤ n ∧ n ≤ 1099511627776 ∧ 0 ≤ o ∧ o ≤ 20 := by simpa [alignB] using h
  obtain ⟨h1, h2, h3, h4⟩ := hb
  have hp : (0 : Int) < 2 ^ o.toNat := Int.pow_pos (by decide)
  have hp2 : (2 : Int) ^ o.toNat ≤ 1048576 := by
    have := Nat.pow_le_pow_right (show 0 < 2 by decide) (show o.toNat ≤ 20 by omega)
    simp only [Nat.reducePow] at this
    have e : ((2 ^ o.toNat : Nat) : Int) = 2 ^ o.toNat := by simp
    omega
  go_enter Tryd.func21, Tryd.ntmps21
  go_wp2_with (first | (go_at_call 28; refine (mayAlign_any _ _ _).mono ?_; rintro e w1 ⟨rfl, hw⟩; obtain rfl := hw.symm) | (go_at_call 29; refine (alignDown_any _ _ _ (by omega) (by omega) h3 h4).mono ?_; rintro e w1 ⟨rfl, hw⟩; obtain rfl := hw.symm))
  go_ret2
  exact ⟨rfl, 0, rfl⟩
theorem down_no (n o : Int) (w : World) (h : alignB n o = false) :
    Calls Tryd.prog 20 #[.int .i64 n, .int .i64 o] w fun e w' => e = .returned (.tuple #[.int .i64 0, .iface 30 (.int .i64 1)]) ∧ w' = w := by
  go_enter Tryd.func20, Tryd.ntmps20
  go_wp2_with (go_at_call 28; refine (mayAlign_any _ _ _).mono ?_; rintro e w1 ⟨rfl, hw⟩; obtain rfl := hw.symm)
  go_ret2
  exact ⟨rfl, rfl⟩
theorem up_no (n o : Int) (w : World) (h : alignB n o = false) :
    Calls Tryd.prog 21 #[.int .i64 n, .int .i64 o] w fun e w' => e = .returned (.tuple #[.int .i64 0, .iface 30 (.int .i64 1)]) ∧ w' = w := by
  go_enter Tryd.func21, Tryd.ntmps21
  go_wp2_with (go_at_call 28; refine (mayAlign_any _ _ _).mono ?_; rintro e w1 ⟨rfl, hw⟩; obtain rfl := hw.symm)
  go_ret2
  exact ⟨rfl, rfl⟩
end Go.Proofs.YthjkjlpiiejkmaaDoor
