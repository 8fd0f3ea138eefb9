/- What the reference's Word answers where it can be said. -/
import Derived.Test.YtjijgpdfoilijaaPRef
import Derived.Test.YtjijgpdfoilijaaPLev
namespace Go.Proofs.Ytjijgpdfoilijaa
open Go.RowKit

theorem fld_low {x n v : Nat} (h : x % 128 = v) (a : Nat) (ha : a + n ≤ 7) : fld x a n = v / 2 ^ a % 2 ^ n := by
  unfold fld
  have e : x = v + 128 * (x / 128) := by have := Nat.mod_add_div x 128; omega
  have e2 : (128 : Nat) = 2 ^ a * (2 ^ (7 - a)) := by rw [← Nat.pow_add, show a + (7 - a) = 7 from by omega]
  have e3 : (2 : Nat) ^ (7 - a) = 2 ^ n * 2 ^ (7 - a - n) := by rw [← Nat.pow_add, show n + (7 - a - n) = 7 - a from by omega]
  conv => lhs; rw [e]
  rw [e2, Nat.mul_assoc, Nat.add_mul_div_left _ _ (Nat.two_pow_pos a), e3, Nat.mul_assoc, Nat.add_mul_mod_self_left]

/-- The words on the way to one that has rights. -/
theorem word_way (f s p q c o : Nat) (hf : f < 512) (hs : s < 8) (hp : p ≤ 1) (hq : q ≤ 1) (hc : c ≤ 1) (ho : o ≤ 1) :
    ∃ x1 x2 x3 x4 x5 x6 : Nat, x1 = 0 + f * 2 ^ 12 ∧ x2 = x1 + s * 2 ^ 55 ∧ x3 = x2 + p * 2 ^ 7 ∧ x4 = x3 + q * 2 ^ 54 ∧ x5 = x4 + c * 2 ^ 10 ∧ x6 = x5 + o * 2 ^ 52 ∧
      x1 < 18446744073709551616 ∧ x2 < 18446744073709551616 ∧ x3 < 18446744073709551616 ∧ x4 < 18446744073709551616 ∧ x5 < 18446744073709551616 ∧ x6 < 18446744073709551500 ∧
      fld x1 55 3 = 0 ∧ fld x2 7 1 = 0 ∧ fld x3 54 1 = 0 ∧ fld x4 10 1 = 0 ∧ fld x5 52 1 = 0 ∧ x6 % 128 = 0 ∧
      x6 = f * 4096 + (s * 36028797018963968 + p * 128 + q * 18014398509481984 + c * 1024 + o * 4503599627370496) := by
  have p7 : (2 : Nat) ^ 7 = 128 := by simp only [Nat.reducePow]
  have p10 : (2 : Nat) ^ 10 = 1024 := by simp only [Nat.reducePow]
  have p12 : (2 : Nat) ^ 12 = 4096 := by simp only [Nat.reducePow]
  have p52 : (2 : Nat) ^ 52 = 4503599627370496 := by simp only [Nat.reducePow]
  have p54 : (2 : Nat) ^ 54 = 18014398509481984 := by simp only [Nat.reducePow]
  have p55 : (2 : Nat) ^ 55 = 36028797018963968 := by simp only [Nat.reducePow]
  rw [p7, p10, p12, p52, p54, p55]
  clear p7 p10 p12 p52 p54 p55
  obtain ⟨z, hz⟩ : ∃ z : Nat, z = 0 := ⟨_, rfl⟩
  obtain ⟨x1, h1⟩ : ∃ x, x = 0 + f * 4096 := ⟨_, rfl⟩
  obtain ⟨x2, h2⟩ : ∃ x, x = x1 + s * 36028797018963968 := ⟨_, rfl⟩
  obtain ⟨x3, h3⟩ : ∃ x, x = x2 + p * 128 := ⟨_, rfl⟩
  obtain ⟨x4, h4⟩ : ∃ x, x = x3 + q * 18014398509481984 := ⟨_, rfl⟩
  obtain ⟨x5, h5⟩ : ∃ x, x = x4 + c * 1024 := ⟨_, rfl⟩
  obtain ⟨x6, h6⟩ : ∃ x, x = x5 + o * 4503599627370496 := ⟨_, rfl⟩
  have m0 : mustN 0 = 0 := rfl
  have a1 : fld x1 55 3 = 0 := by
    rw [fld_S]
    obtain ⟨y, hy⟩ : ∃ y, y = f * 4096 + (z * 36028797018963968 + z * 128 + z * 18014398509481984 + z * 1024 + z * 4503599627370496) + (z + 2 * z + 4 * z + 64 * z) := ⟨_, rfl⟩
    have e : x1 = y := by omega
    have := (lin_fields (by omega) (by omega) (by omega) (by omega) hf (by omega) (by omega) (by omega) (by omega) (by omega) (e.trans hy)).2.2.2.2.2.2.2
    omega
  have a2 : fld x2 7 1 = 0 := by
    rw [fld_7]
    obtain ⟨y, hy⟩ : ∃ y, y = f * 4096 + (s * 36028797018963968 + z * 128 + z * 18014398509481984 + z * 1024 + z * 4503599627370496) + (z + 2 * z + 4 * z + 64 * z) := ⟨_, rfl⟩
    have e : x2 = y := by omega
    have := (lin_fields (by omega) (by omega) (by omega) (by omega) hf hs (by omega) (by omega) (by omega) (by omega) (e.trans hy)).2.2.2.1
    omega
  have a3 : fld x3 54 1 = 0 := by
    rw [fld_54]
    obtain ⟨y, hy⟩ : ∃ y, y = f * 4096 + (s * 36028797018963968 + p * 128 + z * 18014398509481984 + z * 1024 + z * 4503599627370496) + (z + 2 * z + 4 * z + 64 * z) := ⟨_, rfl⟩
    have e : x3 = y := by omega
    have := (lin_fields (by omega) (by omega) (by omega) (by omega) hf hs hp (by omega) (by omega) (by omega) (e.trans hy)).2.2.2.2.2.2.1
    omega
  have a4 : fld x4 10 1 = 0 := by
    rw [fld_10]
    obtain ⟨y, hy⟩ : ∃ y, y = f * 4096 + (s * 36028797018963968 + p * 128 + q * 18014398509481984 + z * 1024 + z * 4503599627370496) + (z + 2 * z + 4 * z + 64 * z) := ⟨_, rfl⟩
    have e : x4 = y := by omega
    have := (lin_fields (by omega) (by omega) (by omega) (by omega) hf hs hp hq (by omega) (by omega) (e.trans hy)).2.2.2.2.1
    omega
  have a5 : fld x5 52 1 = 0 := by
    rw [fld_52]
    obtain ⟨y, hy⟩ : ∃ y, y = f * 4096 + (s * 36028797018963968 + p * 128 + q * 18014398509481984 + c * 1024 + z * 4503599627370496) + (z + 2 * z + 4 * z + 64 * z) := ⟨_, rfl⟩
    have e : x5 = y := by omega
    have := (lin_fields (by omega) (by omega) (by omega) (by omega) hf hs hp hq hc (by omega) (e.trans hy)).2.2.2.2.2.1
    omega
  obtain ⟨y, hy⟩ : ∃ y, y = f * 4096 + (s * 36028797018963968 + p * 128 + q * 18014398509481984 + c * 1024 + o * 4503599627370496) := ⟨_, rfl⟩
  have e6 : x6 = y := by omega
  exact ⟨x1, x2, x3, x4, x5, x6, h1, h2, h3, h4, h5, h6, by omega, by omega, by omega, by omega, by omega, by omega, a1, a2, a3, a4, a5, by omega, e6.trans hy⟩

theorem fld_zero (a n : Nat) : fld 0 a n = 0 := by unfold fld; simp

set_option maxHeartbeats 1000000 in
theorem refWord_none (d : Dsc) (w : World) (h : d.kind = 0) :
    Calls Try.prog 16 #[dv d] w fun e w' => e = .returned (.int .u64 0) ∧ Below w.heap.size w w' := by
  unfold dv
  go_enter Try.func16, Try.ntmps16
  go_wp2
  go_ret
  exact ⟨rfl, (Below.refl _ _).alloc (Nat.le_refl _) _⟩

set_option maxHeartbeats 1000000 in
theorem refWord_table (f s : Nat) (a b c o : Bool) (w : World) (hf : f < 512) :
    Calls Try.prog 16 #[dv ⟨1, f, a, b, c, o, s⟩] w fun e w' => e = .returned (.int .u64 ((f * 4096 + 3 : Nat) : Int)) ∧ Below w.heap.size w w' := by
  obtain ⟨x1, h1⟩ : ∃ x, x = 0 + f * 2 ^ 12 := ⟨_, rfl⟩
  have p12 : (2 : Nat) ^ 12 = 4096 := by simp only [Nat.reducePow]
  have c1 := fun w => refPut_at 0 12 36 f w (by decide) (by decide) (by decide) (by omega) (fld_zero _ _)
  rw [← h1] at c1
  rw [p12] at h1
  have c2 := fun w => refPut_at x1 0 2 3 w (by omega) (by decide) (by decide) (by decide) (by rw [fld_low (v := 0) (by omega) 0 (by decide)])
  obtain ⟨x2, h2⟩ : ∃ x, x = x1 + 3 * 2 ^ 0 := ⟨_, rfl⟩
  rw [← h2] at c2
  rw [Nat.pow_zero] at h2
  have e : f * 4096 + 3 = x2 := by omega
  rw [e]
  clear e h1 h2 p12
  unfold dv
  simp only
  go_enter Try.func16, Try.ntmps16
  go_wp2_with fail
  refine (c1 _).mono ?_
  rintro e w1 ⟨rfl, hw⟩
  obtain rfl := hw.symm
  clear hw
  go_wp2_with fail
  refine (c2 _).mono ?_
  rintro e w1 ⟨rfl, hw⟩
  obtain rfl := hw.symm
  clear hw
  go_wp2
  go_ret
  exact ⟨rfl, (Below.refl _ _).alloc (Nat.le_refl _) _⟩

set_option maxHeartbeats 4000000 in
theorem refWord_rest (k : Int) (f s : Nat) (a b c o : Bool) (w : World) (hf : f < 512) (hs : s < 8) (hk : k = 2 ∨ k = 3 ∨ k = 4) (y : Nat)
    (hy : y = f * 4096 + (s * 36028797018963968 + bn (!a) * 128 + bn (!b) * 18014398509481984 + bn c * 1024 + bn o * 4503599627370496) + mustN k) :
    Calls Try.prog 16 #[dv ⟨k, f, a, b, c, o, s⟩] w fun e w' => e = .returned (.int .u64 (y : Int)) ∧ Below w.heap.size w w' := by
  obtain ⟨x1, x2, x3, x4, x5, x6, h1, h2, h3, h4, h5, h6, l1, l2, l3, l4, l5, l6, a1, a2, a3, a4, a5, a6, e6⟩ := word_way f s (bn (!a)) (bn (!b)) (bn c) (bn o) hf hs (bn_le _) (bn_le _) (bn_le _) (bn_le _)
  have c1 := fun w => refPut_at 0 12 36 f w (by decide) (by decide) (by decide) (by omega) (fld_zero _ _)
  rw [← h1] at c1
  have c2 := fun w => refPut_at x1 55 3 s w l1 (by decide) (by decide) (by omega) a1
  rw [← h2] at c2
  have c3 := fun w => refSet_at x2 7 (!a) w l2 (by decide) a2
  rw [← h3] at c3
  have c4 := fun w => refSet_at x3 54 (!b) w l3 (by decide) a3
  rw [← h4] at c4
  have c5 := fun w => refSet_at x4 10 c w l4 (by decide) a4
  rw [← h5] at c5
  have c6 := fun w => refSet_at x5 52 o w l5 (by decide) a5
  rw [← h6] at c6
  rw [← e6] at hy
  clear h1 h2 h3 h4 h5 h6 a1 a2 a3 a4 a5 l1 l2 l3 l4 l5 e6
  unfold dv
  simp only
  rcases hk with rfl | rfl | rfl
  · rw [show mustN 2 = 65 from rfl] at hy
    have c7 := fun w => refPut_at x6 0 2 1 w (by omega) (by decide) (by decide) (by decide) (by rw [fld_low a6 0 (by decide)])
    obtain ⟨x7, h7⟩ : ∃ x, x = x6 + 1 * 2 ^ 0 := ⟨_, rfl⟩
    rw [← h7] at c7
    rw [Nat.pow_zero] at h7
    have c8 := fun w => refSet_at x7 6 true w (by omega) (by decide) (by rw [fld_low (v := 1) (by omega) 6 (by decide)])
    obtain ⟨x8, h8⟩ : ∃ x, x = x7 + bn true * 2 ^ 6 := ⟨_, rfl⟩
    rw [← h8] at c8
    rw [show (2 : Nat) ^ 6 = 64 from rfl, show bn true = 1 from rfl] at h8
    have e : y = x8 := by omega
    rw [e]
    clear e h7 h8 hy a6 l6
    go_enter Try.func16, Try.ntmps16
    go_wp2_with fail
    refine (c1 _).mono ?_; rintro e w1 ⟨rfl, hw⟩; obtain rfl := hw.symm; clear hw
    go_wp2_with fail
    refine (c2 _).mono ?_; rintro e w1 ⟨rfl, hw⟩; obtain rfl := hw.symm; clear hw
    go_wp2_with fail
    refine (c3 _).mono ?_; rintro e w1 ⟨rfl, hw⟩; obtain rfl := hw.symm; clear hw
    go_wp2_with fail
    refine (c4 _).mono ?_; rintro e w1 ⟨rfl, hw⟩; obtain rfl := hw.symm; clear hw
    go_wp2_with fail
    refine (c5 _).mono ?_; rintro e w1 ⟨rfl, hw⟩; obtain rfl := hw.symm; clear hw
    go_wp2_with fail
    refine (c6 _).mono ?_; rintro e w1 ⟨rfl, hw⟩; obtain rfl := hw.symm; clear hw
    go_wp2_with fail
    refine (c7 _).mono ?_; rintro e w1 ⟨rfl, hw⟩; obtain rfl := hw.symm; clear hw
    go_wp2_with fail
    refine (c8 _).mono ?_; rintro e w1 ⟨rfl, hw⟩; obtain rfl := hw.symm; clear hw
    go_wp2
    go_ret
    exact ⟨rfl, (Below.refl _ _).alloc (Nat.le_refl _) _⟩
  · rw [show mustN 3 = 67 from rfl] at hy
    have c7 := fun w => refPut_at x6 0 2 3 w (by omega) (by decide) (by decide) (by decide) (by rw [fld_low a6 0 (by decide)])
    obtain ⟨x7, h7⟩ : ∃ x, x = x6 + 3 * 2 ^ 0 := ⟨_, rfl⟩
    rw [← h7] at c7
    rw [Nat.pow_zero] at h7
    have c8 := fun w => refSet_at x7 6 true w (by omega) (by decide) (by rw [fld_low (v := 3) (by omega) 6 (by decide)])
    obtain ⟨x8, h8⟩ : ∃ x, x = x7 + bn true * 2 ^ 6 := ⟨_, rfl⟩
    rw [← h8] at c8
    rw [show (2 : Nat) ^ 6 = 64 from rfl, show bn true = 1 from rfl] at h8
    have e : y = x8 := by omega
    rw [e]
    clear e h7 h8 hy a6 l6
    go_enter Try.func16, Try.ntmps16
    go_wp2_with fail
    refine (c1 _).mono ?_; rintro e w1 ⟨rfl, hw⟩; obtain rfl := hw.symm; clear hw
    go_wp2_with fail
    refine (c2 _).mono ?_; rintro e w1 ⟨rfl, hw⟩; obtain rfl := hw.symm; clear hw
    go_wp2_with fail
    refine (c3 _).mono ?_; rintro e w1 ⟨rfl, hw⟩; obtain rfl := hw.symm; clear hw
    go_wp2_with fail
    refine (c4 _).mono ?_; rintro e w1 ⟨rfl, hw⟩; obtain rfl := hw.symm; clear hw
    go_wp2_with fail
    refine (c5 _).mono ?_; rintro e w1 ⟨rfl, hw⟩; obtain rfl := hw.symm; clear hw
    go_wp2_with fail
    refine (c6 _).mono ?_; rintro e w1 ⟨rfl, hw⟩; obtain rfl := hw.symm; clear hw
    go_wp2_with fail
    refine (c7 _).mono ?_; rintro e w1 ⟨rfl, hw⟩; obtain rfl := hw.symm; clear hw
    go_wp2_with fail
    refine (c8 _).mono ?_; rintro e w1 ⟨rfl, hw⟩; obtain rfl := hw.symm; clear hw
    go_wp2
    go_ret
    exact ⟨rfl, (Below.refl _ _).alloc (Nat.le_refl _) _⟩
  · rw [show mustN 4 = 10 from rfl] at hy
    have c7 := fun w => refPut_at x6 1 3 5 w (by omega) (by decide) (by decide) (by decide) (by rw [fld_low a6 1 (by decide)])
    obtain ⟨x7, h7⟩ : ∃ x, x = x6 + 5 * 2 ^ 1 := ⟨_, rfl⟩
    rw [← h7] at c7
    rw [Nat.pow_one] at h7
    have e : y = x7 := by omega
    rw [e]
    clear e h7 hy a6 l6
    go_enter Try.func16, Try.ntmps16
    go_wp2_with fail
    refine (c1 _).mono ?_; rintro e w1 ⟨rfl, hw⟩; obtain rfl := hw.symm; clear hw
    go_wp2_with fail
    refine (c2 _).mono ?_; rintro e w1 ⟨rfl, hw⟩; obtain rfl := hw.symm; clear hw
    go_wp2_with fail
    refine (c3 _).mono ?_; rintro e w1 ⟨rfl, hw⟩; obtain rfl := hw.symm; clear hw
    go_wp2_with fail
    refine (c4 _).mono ?_; rintro e w1 ⟨rfl, hw⟩; obtain rfl := hw.symm; clear hw
    go_wp2_with fail
    refine (c5 _).mono ?_; rintro e w1 ⟨rfl, hw⟩; obtain rfl := hw.symm; clear hw
    go_wp2_with fail
    refine (c6 _).mono ?_; rintro e w1 ⟨rfl, hw⟩; obtain rfl := hw.symm; clear hw
    go_wp2_with fail
    refine (c7 _).mono ?_; rintro e w1 ⟨rfl, hw⟩; obtain rfl := hw.symm; clear hw
    go_wp2
    go_ret
    exact ⟨rfl, (Below.refl _ _).alloc (Nat.le_refl _) _⟩

theorem refWord_any (l : Int) (d : Dsc) (w : World) (h : mayD l d = true) :
    Calls Try.prog 16 #[dv d] w fun e w' => e = .returned (.int .u64 ((wordD d : Nat) : Int)) ∧ Below w.heap.size w w' := by
  have hk := word_mod h
  obtain ⟨k, f, a, b, c, o, s⟩ := d
  simp only [mayD, Bool.and_eq_true, decide_eq_true_eq] at h hk
  obtain ⟨⟨l0, l3, f0, f1, s0, s1⟩, h⟩ := h
  obtain ⟨f, rfl⟩ := Int.eq_ofNat_of_zero_le f0
  obtain ⟨s, rfl⟩ := Int.eq_ofNat_of_zero_le s0
  rcases hk with ⟨k0, e⟩ | ⟨k1, _⟩ | ⟨k2, _⟩ | ⟨k3, _⟩ | ⟨k4, _⟩
  · rw [e]
    exact refWord_none _ w k0
  · subst k1
    have := refWord_table f s a b c o w (by omega)
    rw [word1 _ rfl]
    exact this
  · subst k2
    rw [word2 _ rfl]
    exact refWord_rest 2 f s a b c o w (by omega) (by omega) (Or.inl rfl) _ rfl
  · subst k3
    rw [word3 _ rfl]
    exact refWord_rest 3 f s a b c o w (by omega) (by omega) (Or.inr (Or.inl rfl)) _ rfl
  · subst k4
    rw [word4 _ rfl]
    exact refWord_rest 4 f s a b c o w (by omega) (by omega) (Or.inr (Or.inr rfl)) _ rfl
end Go.Proofs.Ytjijgpdfoilijaa
