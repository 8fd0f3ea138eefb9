/- WordNear and WordAligns answer true for all arguments; condition: the table lies as its text lays it. -/
import Derived.Test.YthjkjlpiiejkmaaDoorUp
namespace Go.Proofs.YthjkjlpiiejkmaaDoor
open Go.RowKit

theorem alignB_true {n o : Int} (h : alignB n o = true) : 0 ≤ n ∧ n ≤ 1099511627776 ∧ 0 ≤ o ∧ o ≤ 20 := by simpa [alignB] using h
theorem pw_int (o : Nat) : (2 : Int) ^ o = pw o := by unfold pw; simp

/-- What Down and Up answer, as numbers. -/
def dn (n o : Int) : Int := n / 2 ^ o.toNat * 2 ^ o.toNat
def upw (n o : Int) : Int := (n + 2 ^ o.toNat - 1) / 2 ^ o.toNat * 2 ^ o.toNat

theorem dn_spec (n o : Int) (h : 0 ≤ n) : 0 ≤ dn n o ∧ dn n o ≤ n ∧ n - dn n o < pw o.toNat ∧ dn n o % pw o.toNat = 0 := by
  have hp := pw_pos o.toNat
  unfold dn
  rw [pw_int]
  generalize pw o.toNat = p at *
  have h1 := Int.mul_ediv_add_emod n p
  have h2 := Int.emod_nonneg n (show p ≠ 0 by omega)
  have h3 := Int.emod_lt_of_pos n hp
  have h4 := Int.ediv_nonneg h (Int.le_of_lt hp)
  have h5 : 0 ≤ n / p * p := Int.mul_nonneg h4 (Int.le_of_lt hp)
  rw [Int.mul_comm] at h1
  refine ⟨h5, by omega, by omega, Int.mul_emod_left _ _⟩
theorem upw_eq (n o : Int) : upw n o = dn (n + pw o.toNat - 1) o := by unfold upw dn; rw [pw_int]
theorem near_yes (n o : Int) (hm : n % pw o.toNat = 0) : dn n o = n ∧ upw n o = n := by
  have hp := pw_pos o.toNat
  rw [upw_eq]
  unfold dn
  rw [pw_int]
  generalize pw o.toNat = p at *
  have h1 := Int.mul_ediv_add_emod n p
  have e1 : n / p * p = n := by rw [Int.mul_comm]; omega
  refine ⟨e1, ?_⟩
  have e2 : (n + p - 1) / p = n / p := by
    conv => lhs; rw [show n + p - 1 = (p - 1) + (n / p) * p from by omega]
    rw [Int.add_mul_ediv_right _ _ (show p ≠ 0 by omega), Int.ediv_eq_zero_of_lt (by omega) (by omega)]
    omega
  rw [e2, e1]
theorem near_no (n o : Int) (hm : n % pw o.toNat ≠ 0) : upw n o = dn n o + pw o.toNat := by
  have hp := pw_pos o.toNat
  rw [upw_eq]
  unfold dn
  rw [pw_int]
  generalize pw o.toNat = p at *
  have h1 := Int.mul_ediv_add_emod n p
  have h2 := Int.emod_nonneg n (show p ≠ 0 by omega)
  have h3 := Int.emod_lt_of_pos n hp
  have e2 : (n + p - 1) / p = n / p + 1 := by
    conv => lhs; rw [show n + p - 1 = (n % p - 1) + (n / p + 1) * p from by rw [Int.add_mul, Int.mul_comm (n / p)]; omega]
    rw [Int.add_mul_ediv_right _ _ (show p ≠ 0 by omega), Int.ediv_eq_zero_of_lt (by omega) (by omega)]
    omega
  rw [e2, Int.add_mul]
  omega

theorem down_dn (n o : Int) (w : World) (h : alignB n o = true) :
    Calls Tryd.prog 20 #[.int .i64 n, .int .i64 o] w fun e w' => e = .returned (.tuple #[.int .i64 (dn n o), .nilIface]) ∧ ∃ d, w' = w.drewN d := down_yes n o w h
theorem up_upw (n o : Int) (w : World) (h : alignB n o = true) :
    Calls Tryd.prog 21 #[.int .i64 n, .int .i64 o] w fun e w' => e = .returned (.tuple #[.int .i64 (upw n o), .nilIface]) ∧ ∃ d, w' = w.drewN d := up_yes n o w h

set_option maxHeartbeats 1000000 in
theorem walk_wordNear (n o : Int) (w : World) (hT : Tab w) (_hn : -9223372036854775808 ≤ n ∧ n ≤ 9223372036854775807) (_ho : -9223372036854775808 ≤ o ∧ o ≤ 9223372036854775807) :
    Calls Tryd.prog 9 #[.int .i64 n, .int .i64 o] w fun e w' => e = .returned (.bool true) ∧ Below w.heap.size w w' := by
  cases hb : alignB n o
  · go_enter Tryd.func9, Tryd.ntmps9
    go_wp2_with fail
    refine (up_any _ hT).mono ?_
    rintro e w1 ⟨rfl, hbel⟩
    go_wp2_with (first
      | (go_at_call 20; refine (down_no _ _ _ hb).mono ?_; rintro e w2 ⟨rfl, hw⟩; obtain rfl := hw.symm; clear hw)
      | (go_at_call 21; refine (up_no _ _ _ hb).mono ?_; rintro e w2 ⟨rfl, hw⟩; obtain rfl := hw.symm; clear hw))
    go_ret
    exact ⟨rfl, hbel⟩
  · obtain ⟨h1, h2, h3, h4⟩ := alignB_true hb
    have hp := pw_pos o.toNat
    have hp2 := pw_small o.toNat (by omega)
    have d1 := dn_spec n o h1
    by_cases hm : n % pw o.toNat = 0
    · obtain ⟨e1, e2⟩ := near_yes n o hm
      have hm2 : (n % pw o.toNat == 0) = true := by simpa using hm
      clear hm
      go_enter Tryd.func9, Tryd.ntmps9
      go_wp2_with fail
      refine (up_any _ hT).mono ?_
      rintro e w1 ⟨rfl, hbel⟩
      go_wp2_with (first
        | (go_at_call 20; refine (down_dn _ _ _ hb).mono ?_; rintro e w2 ⟨rfl, d1, rfl⟩)
        | (go_at_call 21; refine (up_upw _ _ _ hb).mono ?_; rintro e w2 ⟨rfl, d2, rfl⟩)
        | (go_at_call 19; refine (power_int _ _ h3 (by omega)).mono ?_; rintro e w2 ⟨rfl, hw⟩; obtain rfl := hw.symm; clear hw))
      go_ret
      exact ⟨rfl, below_drewN hbel _⟩
    · have e1 := near_no n o hm
      have hm2 : (n % pw o.toNat == 0) = false := by simpa using hm
      clear hm
      go_enter Tryd.func9, Tryd.ntmps9
      go_wp2_with fail
      refine (up_any _ hT).mono ?_
      rintro e w1 ⟨rfl, hbel⟩
      go_wp2_with (first
        | (go_at_call 20; refine (down_dn _ _ _ hb).mono ?_; rintro e w2 ⟨rfl, d1, rfl⟩)
        | (go_at_call 21; refine (up_upw _ _ _ hb).mono ?_; rintro e w2 ⟨rfl, d2, rfl⟩)
        | (go_at_call 19; refine (power_int _ _ h3 (by omega)).mono ?_; rintro e w2 ⟨rfl, hw⟩; obtain rfl := hw.symm; clear hw))
      go_ret
      exact ⟨rfl, below_drewN hbel _⟩

theorem upw_spec (n o : Int) (h : 0 ≤ n) : n ≤ upw n o ∧ upw n o - n < pw o.toNat ∧ upw n o % pw o.toNat = 0 := by
  have hp := pw_pos o.toNat
  have := dn_spec (n + pw o.toNat - 1) o (by omega)
  rw [upw_eq]
  refine ⟨by omega, by omega, this.2.2.2⟩

set_option maxHeartbeats 1000000 in
theorem walk_wordAligns (n o : Int) (w : World) (hT : Tab w) (_hn : -9223372036854775808 ≤ n ∧ n ≤ 9223372036854775807) (_ho : -9223372036854775808 ≤ o ∧ o ≤ 9223372036854775807) :
    Calls Tryd.prog 5 #[.int .i64 n, .int .i64 o] w fun e w' => e = .returned (.bool true) ∧ Below w.heap.size w w' := by
  cases hb : alignB n o
  · have hneg : ¬ (0 ≤ n ∧ n ≤ 1099511627776 ∧ 0 ≤ o ∧ o ≤ 20) := by simpa only [alignB, decide_eq_false_iff_not] using hb
    have he := fun w => Lib.run_eql_iface_int (P := Tryd.prog) w (t := 25) (tx := 30) (k := .i64) 1 1 Tryd.underlying25 (by kernel_rfl) Tryd.underlying30
    have hcase : n < 0 ∨ (0 ≤ n ∧ 1099511627776 < n) ∨ (0 ≤ n ∧ n ≤ 1099511627776 ∧ o < 0) ∨ (0 ≤ n ∧ n ≤ 1099511627776 ∧ 0 ≤ o ∧ 20 < o) := by omega
    clear hneg
    go_enter Tryd.func5, Tryd.ntmps5
    go_wp2_with fail
    refine (up_any _ hT).mono ?_
    rintro e w1 ⟨rfl, hbel⟩
    rcases hcase with c | ⟨c, c2⟩ | ⟨c, c2, c3⟩ | ⟨c, c2, c3, c4⟩
    all_goals
      go_wp2_with (first
        | (go_at_call 20; refine (down_no _ _ _ hb).mono ?_; rintro e w2 ⟨rfl, hw⟩; obtain rfl := hw.symm; clear hw)
        | (go_at_call 21; refine (up_no _ _ _ hb).mono ?_; rintro e w2 ⟨rfl, hw⟩; obtain rfl := hw.symm; clear hw))
      go_ret
      exact ⟨rfl, hbel⟩
  · obtain ⟨h1, h2, h3, h4⟩ := alignB_true hb
    have hp := pw_pos o.toNat
    have hp2 := pw_small o.toNat (by omega)
    obtain ⟨a1, a2, a3, a4⟩ := dn_spec n o h1
    obtain ⟨b1, b2, b3⟩ := upw_spec n o h1
    go_enter Tryd.func5, Tryd.ntmps5
    go_wp2_with fail
    refine (up_any _ hT).mono ?_
    rintro e w1 ⟨rfl, hbel⟩
    go_wp2_with (first
      | (go_at_call 20; refine (down_dn _ _ _ hb).mono ?_; rintro e w2 ⟨rfl, d1, rfl⟩)
      | (go_at_call 21; refine (up_upw _ _ _ hb).mono ?_; rintro e w2 ⟨rfl, d2, rfl⟩)
      | (go_at_call 19; refine (power_int _ _ h3 (by omega)).mono ?_; rintro e w2 ⟨rfl, hw⟩; obtain rfl := hw.symm; clear hw))
    go_ret
    exact ⟨rfl, below_drewN hbel _⟩
end Go.Proofs.YthjkjlpiiejkmaaDoor
