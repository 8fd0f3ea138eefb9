/- WordOne answers true for all arguments; condition: the table lies as its text lays it. -/
import Derived.Test.YthjkjlpiiejkmaaDoorUp
namespace Go.Proofs.YthjkjlpiiejkmaaDoor
open Go.RowKit

theorem cutOne_any (f : Int) (o c : Nat) (w : World) (hT : Tab w) (ho : o < 20) (hf : f = (c : Int) * pw o) (hle : f + pw o ≤ 1048576) :
    Calls Tryd.prog 22 #[.int .i64 f, .int .i64 (f + pw o)] w fun e w' => ∃ g cap, e = .returned (.tuple #[.slice (some ⟨g, 0, none⟩) 1 cap, .nilIface]) ∧
      w'.cell? ⟨g, 0, none⟩ = some (.int .i64 f) ∧ w'.cell? ⟨g, 1, none⟩ = some (.int .i64 o) ∧ Below w.heap.size w w' := by
  subst hf
  have e1 : (c : Int) * pw o = ((c * 2 ^ o : Nat) : Int) := by unfold pw; simp
  have e2 : (c : Int) * pw o + pw o = ((c * 2 ^ o + 2 ^ o : Nat) : Int) := by unfold pw; simp
  rw [e2] at hle ⊢
  rw [e1]
  have hle2 : c * 2 ^ o + 2 ^ o ≤ 1048576 := Int.ofNat_le.1 hle
  refine (cut_yes (c * 2 ^ o) (c * 2 ^ o + 2 ^ o) w hT (Nat.le_add_right _ _) hle2).mono ?_
  rintro e w' ⟨v, rfl, hown, hbel⟩
  rw [cutL_one c o ho hle2] at hown
  obtain ⟨g, cap, rfl, _, h1, h2⟩ := owned_open (by simp) hown
  exact ⟨g, cap, rfl, h1 0 (by simp), h2 0 (by simp), hbel⟩

theorem cutOne_int (f o c : Int) (w : World) (hT : Tab w) (h0 : 0 ≤ o) (ho : o < 20) (hc : 0 ≤ c) (hf : f = c * pw o.toNat) (hle : f + pw o.toNat ≤ 1048576) :
    Calls Tryd.prog 22 #[.int .i64 f, .int .i64 (f + pw o.toNat)] w fun e w' => ∃ g cap, e = .returned (.tuple #[.slice (some ⟨g, 0, none⟩) 1 cap, .nilIface]) ∧
      w'.cell? ⟨g, 0, none⟩ = some (.int .i64 f) ∧ w'.cell? ⟨g, 1, none⟩ = some (.int .i64 o) ∧ Below w.heap.size w w' := by
  have := cutOne_any f o.toNat c.toNat w hT (by omega) (by rw [hf, show ((c.toNat : Nat) : Int) = c from by omega]) hle
  rwa [show ((o.toNat : Nat) : Int) = o from by omega] at this

theorem one_bounds (k : Int) (o : Nat) (ho : o < 20) : 0 < 1048576 / pw o ∧ 1048576 / pw o ≤ 1048576 ∧ 0 ≤ k % (1048576 / pw o) ∧ k % (1048576 / pw o) ≤ 1048576 ∧ 0 ≤ k % (1048576 / pw o) * pw o ∧ k % (1048576 / pw o) * pw o + pw o ≤ 1048576 := by
  have hp := pw_pos o
  obtain ⟨d, hd⟩ : ∃ d, 20 = o + d := ⟨20 - o, by omega⟩
  have e : (1048576 : Int) = pw o * pw d := by unfold pw; rw [← Int.natCast_mul, ← Nat.pow_add, ← hd]; rfl
  have e3 : 1048576 / pw o = pw d := by
    conv => lhs; rw [e]
    rw [Int.mul_ediv_cancel_left _ (Int.ne_of_gt hp)]
  have hpd := pw_pos d
  have hpl : pw d ≤ 1048576 := by
    have := Nat.pow_le_pow_right (show 0 < 2 by decide) (show d ≤ 20 by omega)
    unfold pw
    simp only [Nat.reducePow] at this
    omega
  rw [e3]
  have h1 := Int.emod_nonneg k (show pw d ≠ 0 by omega)
  have h2 := Int.emod_lt_of_pos k hpd
  have h3 : k % pw d * pw o ≤ (pw d - 1) * pw o := Int.mul_le_mul_of_nonneg_right (by omega) (by omega)
  rw [Int.sub_mul, Int.mul_comm (pw d), ← e] at h3
  exact ⟨hpd, hpl, h1, by omega, Int.mul_nonneg h1 (by omega), by omega⟩

set_option maxHeartbeats 2000000 in
theorem walk_wordOne (k o : Int) (w : World) (hT : Tab w) (hk : -9223372036854775808 ≤ k ∧ k ≤ 9223372036854775807) (ho : -9223372036854775808 ≤ o ∧ o ≤ 9223372036854775807) :
    Calls Tryd.prog 10 #[.int .i64 k, .int .i64 o] w fun e w' => e = .returned (.bool true) ∧ Below w.heap.size w w' := by
  obtain ⟨hk1, hk2⟩ := hk
  obtain ⟨ho1, ho2⟩ := ho
  go_enter Tryd.func10, Tryd.ntmps10
  go_wp2_with fail
  refine (up_any _ hT).mono ?_
  rintro e w1 ⟨rfl, hbel⟩
  have hq := fun a b c d w => eqArr2 a b c d w
  have HT : Hid (Tab w1) := hT.below hbel (Nat.le_refl _)
  by_cases o1 : o < 0
  · obtain ⟨q, hoq, q1, q2⟩ : ∃ q, -(o + 1) = q ∧ 0 ≤ q ∧ q ≤ 9223372036854775807 := ⟨_, rfl, by omega, by omega⟩
    have p0 := pw_pos (q % 20).toNat
    have p1 := pw_small (q % 20).toNat (by omega)
    by_cases k1 : k < 0
    · obtain ⟨r, hkr, r1, r2⟩ : ∃ r, -(k + 1) = r ∧ 0 ≤ r ∧ r ≤ 9223372036854775807 := ⟨_, rfl, by omega, by omega⟩
      obtain ⟨b1, b2, b3, b4, b5, b6⟩ := one_bounds r (q % 20).toNat (by omega)
      go_wp2_with (go_at_call 19; refine (power_int _ _ (by omega) (by omega)).mono ?_; rintro e w2 ⟨rfl, hw⟩; obtain rfl := hw.symm; clear hw)
      refine (cutOne_int _ (q % 20) (r % (1048576 / pw (q % 20).toNat)) _ HT.out (by omega) (by omega) b3 rfl b6).mono ?_
      rintro e w2 ⟨g, cap, rfl, c1, c2, hbel2⟩
      go_wp2
      go_ret
      exact ⟨rfl, hbel.trans (hbel2.mono hbel.size)⟩
    · obtain ⟨b1, b2, b3, b4, b5, b6⟩ := one_bounds k (q % 20).toNat (by omega)
      go_wp2_with (go_at_call 19; refine (power_int _ _ (by omega) (by omega)).mono ?_; rintro e w2 ⟨rfl, hw⟩; obtain rfl := hw.symm; clear hw)
      refine (cutOne_int _ (q % 20) (k % (1048576 / pw (q % 20).toNat)) _ HT.out (by omega) (by omega) b3 rfl b6).mono ?_
      rintro e w2 ⟨g, cap, rfl, c1, c2, hbel2⟩
      go_wp2
      go_ret
      exact ⟨rfl, hbel.trans (hbel2.mono hbel.size)⟩
  · have p0 := pw_pos (o % 20).toNat
    have p1 := pw_small (o % 20).toNat (by omega)
    by_cases k1 : k < 0
    · obtain ⟨r, hkr, r1, r2⟩ : ∃ r, -(k + 1) = r ∧ 0 ≤ r ∧ r ≤ 9223372036854775807 := ⟨_, rfl, by omega, by omega⟩
      obtain ⟨b1, b2, b3, b4, b5, b6⟩ := one_bounds r (o % 20).toNat (by omega)
      go_wp2_with (go_at_call 19; refine (power_int _ _ (by omega) (by omega)).mono ?_; rintro e w2 ⟨rfl, hw⟩; obtain rfl := hw.symm; clear hw)
      refine (cutOne_int _ (o % 20) (r % (1048576 / pw (o % 20).toNat)) _ HT.out (by omega) (by omega) b3 rfl b6).mono ?_
      rintro e w2 ⟨g, cap, rfl, c1, c2, hbel2⟩
      go_wp2
      go_ret
      exact ⟨rfl, hbel.trans (hbel2.mono hbel.size)⟩
    · obtain ⟨b1, b2, b3, b4, b5, b6⟩ := one_bounds k (o % 20).toNat (by omega)
      go_wp2_with (go_at_call 19; refine (power_int _ _ (by omega) (by omega)).mono ?_; rintro e w2 ⟨rfl, hw⟩; obtain rfl := hw.symm; clear hw)
      refine (cutOne_int _ (o % 20) (k % (1048576 / pw (o % 20).toNat)) _ HT.out (by omega) (by omega) b3 rfl b6).mono ?_
      rintro e w2 ⟨g, cap, rfl, c1, c2, hbel2⟩
      go_wp2
      go_ret
      exact ⟨rfl, hbel.trans (hbel2.mono hbel.size)⟩
end Go.Proofs.YthjkjlpiiejkmaaDoor
