/- Plain mathematics of descriptors' masks. Nothing of the program. -/
import Derived.Test.YtjijgpdfoilijaaPMath
namespace Go.Proofs.Ytjijgpdfoilijaa

theorem fld_split (x a n : Nat) : x = x / 2 ^ (a + n) * 2 ^ (a + n) + (fld x a n * 2 ^ a + x % 2 ^ a) := by
  unfold fld
  have h1 := Nat.div_add_mod x (2 ^ a)
  have h2 := Nat.div_add_mod (x / 2 ^ a) (2 ^ n)
  rw [Nat.div_div_eq_div_mul, ← Nat.pow_add] at h2
  generalize x / 2 ^ (a + n) = q at *
  generalize x / 2 ^ a % 2 ^ n = m at *
  rw [Nat.mul_comm] at h1
  rw [← h2, Nat.add_mul, Nat.mul_comm (2 ^ n) q, Nat.mul_assoc, ← Nat.pow_add, Nat.add_comm n a] at h1
  omega
theorem pt_zero (x a n : Nat) : pt x a n 0 = x - fld x a n * 2 ^ a := by
  have := fld_split x a n
  unfold pt
  omega
theorem pt_add (x a n v : Nat) (h : fld x a n = 0) : pt x a n v = x + v * 2 ^ a := by
  have := fld_split x a n
  rw [h] at this
  unfold pt
  omega
/-- A mask taken away. -/
theorem clear_mask (x a n : Nat) (hx : x < 18446744073709551616) (h : a + n ≤ 64) : x &&& (18446744073709551615 - (2 ^ n - 1) * 2 ^ a) = pt x a n 0 := by
  have := put_bits x a n 0 hx (Nat.two_pow_pos n) h
  rw [Nat.zero_mul, Nat.or_zero] at this
  exact this
theorem or_field (x a n v : Nat) (hv : v < 2 ^ n) (h : fld x a n = 0) : x ||| v * 2 ^ a = x + v * 2 ^ a := by
  rw [← pt_add x a n v h]
  apply Nat.eq_of_testBit_eq
  intro i
  rw [pt_testBit x a n v i hv, Nat.testBit_or, Nat.testBit_mul_two_pow]
  have hb := fld_testBit x a n (i - a)
  rw [h, Nat.zero_testBit] at hb
  by_cases h1 : i < a
  · rw [if_pos h1]
    have : decide (a ≤ i) = false := by simpa using h1
    rw [this]; simp
  · rw [if_neg h1]
    have e : decide (a ≤ i) = true := by simpa using Nat.le_of_not_lt h1
    rw [e]
    rw [show a + (i - a) = i from by omega] at hb
    by_cases h2 : i < a + n
    · rw [if_pos h2]
      have : decide (i - a < n) = true := by rw [decide_eq_true_iff]; omega
      rw [this, Bool.true_and] at hb
      rw [← hb]; simp
    · rw [if_neg h2]
      have : v.testBit (i - a) = false := Nat.testBit_lt_two_pow (Nat.lt_of_lt_of_le hv (Nat.pow_le_pow_right (by decide) (by omega)))
      rw [this]; simp

theorem fld_F (w : Nat) : fld w 12 36 = wF w := by unfold fld wF; simp only [Nat.reducePow]
theorem fld_7 (w : Nat) : fld w 7 1 = w7 w := by unfold fld w7; simp only [Nat.reducePow]
theorem fld_10 (w : Nat) : fld w 10 1 = w10 w := by unfold fld w10; simp only [Nat.reducePow]
theorem fld_52 (w : Nat) : fld w 52 1 = w52 w := by unfold fld w52; simp only [Nat.reducePow]
theorem fld_54 (w : Nat) : fld w 54 1 = w54 w := by unfold fld w54; simp only [Nat.reducePow]
theorem fld_S (w : Nat) : fld w 55 3 = wS w := by unfold fld wS; simp only [Nat.reducePow]

theorem and_bit (x a : Nat) : x &&& 2 ^ a = x / 2 ^ a % 2 * 2 ^ a := by
  apply Nat.eq_of_testBit_eq
  intro i
  rw [Nat.testBit_and, Nat.testBit_mul_two_pow, Nat.testBit_two_pow, bit_toNat]
  by_cases h : a = i
  · subst h
    cases x.testBit a <;> simp
  · have e : decide (a = i) = false := by simpa using h
    rw [e, Bool.and_false]
    by_cases h2 : a ≤ i
    · have : ((x.testBit a).toNat).testBit (i - a) = false := by
        apply Nat.testBit_lt_two_pow
        have h3 : 2 ^ 1 ≤ 2 ^ (i - a) := Nat.pow_le_pow_right (by decide) (by omega)
        have h4 : (x.testBit a).toNat ≤ 1 := by cases x.testBit a <;> decide
        omega
      rw [this]; simp
    · have : decide (a ≤ i) = false := by simpa using h2
      rw [this]; simp
theorem and_7 (w : Nat) : w &&& 128 = w7 w * 128 := by
  have := and_bit w 7
  simp only [Nat.reducePow] at this
  exact this
theorem and_10 (w : Nat) : w &&& 1024 = w10 w * 1024 := by
  have := and_bit w 10
  simp only [Nat.reducePow] at this
  exact this
theorem and_52 (w : Nat) : w &&& 4503599627370496 = w52 w * 4503599627370496 := by
  have := and_bit w 52
  simp only [Nat.reducePow] at this
  exact this
theorem and_54 (w : Nat) : w &&& 18014398509481984 = w54 w * 18014398509481984 := by
  have := and_bit w 54
  simp only [Nat.reducePow] at this
  exact this
theorem and_1 (w : Nat) : w &&& 2 = w / 2 % 2 * 2 := by
  have := and_bit w 1
  simp only [Nat.reducePow] at this
  exact this

/-- One mask after the other. -/
theorem pt0_lt {x a n : Nat} (hx : x < 18446744073709551616) : pt x a n 0 < 18446744073709551616 := by
  rw [pt_zero]; omega

theorem sub4 (w a b c d : Nat) : w - a - b - c - d = w - (a + b + c + d) := by omega
theorem sub5 (w a b c d e : Nat) : w - a - b - c - d - e = w - (a + b + e + c + d) := by omega
theorem sub6 (w a b c d e f : Nat) : w - a - b - c - d - e - f = w - (a + b + e + f + c + d) := by omega
theorem rest_mask (k : Int) (w : Nat) (hw : w < 18446744073709551616) : w &&& (18446744073709551615 - mayN k) = restN k w := by
  have cF := clear_mask w 12 36 hw (by decide)
  simp only [Nat.reducePow, Nat.reduceMul, Nat.reduceSub] at cF
  have zF := pt_zero w 12 36
  rw [fld_F] at zF
  simp only [Nat.reducePow] at zF
  have lF := pt0_lt (a := 12) (n := 36) hw
  unfold mayN
  by_cases k1 : k = 1
  · subst k1
    rw [if_pos rfl, rest1, ← zF, ← cF]
  rw [if_neg k1]
  by_cases k234 : k = 2 ∨ k = 3 ∨ k = 4
  · have o7 := fld_pt_other w 12 36 0 7 1 (by decide) (by decide)
    have o10 := fld_pt_other w 12 36 0 10 1 (by decide) (by decide)
    have o52 := fld_pt_other w 12 36 0 52 1 (by decide) (by decide)
    have o54 := fld_pt_other w 12 36 0 54 1 (by decide) (by decide)
    have oS := fld_pt_other w 12 36 0 55 3 (by decide) (by decide)
    rw [fld_7, fld_7] at o7
    rw [fld_10, fld_10] at o10
    rw [fld_52, fld_52] at o52
    rw [fld_54, fld_54] at o54
    rw [fld_S, fld_S] at oS
    obtain ⟨x, hx⟩ : ∃ x, x = pt w 12 36 0 := ⟨_, rfl⟩
    rw [← hx] at o7 o10 o52 o54 oS lF zF cF
    -- bit 7
    have c7 := clear_mask x 7 1 lF (by decide)
    simp only [Nat.reducePow, Nat.reduceMul, Nat.reduceSub] at c7
    have z7 := pt_zero x 7 1
    rw [fld_7] at z7
    simp only [Nat.reducePow] at z7
    have l7 := pt0_lt (a := 7) (n := 1) lF
    have p10 := fld_pt_other x 7 1 0 10 1 (by decide) (by decide)
    have p52 := fld_pt_other x 7 1 0 52 1 (by decide) (by decide)
    have p54 := fld_pt_other x 7 1 0 54 1 (by decide) (by decide)
    have pS := fld_pt_other x 7 1 0 55 3 (by decide) (by decide)
    rw [fld_10, fld_10, o10] at p10
    rw [fld_52, fld_52, o52] at p52
    rw [fld_54, fld_54, o54] at p54
    rw [fld_S, fld_S, oS] at pS
    obtain ⟨y, hy⟩ : ∃ y, y = pt x 7 1 0 := ⟨_, rfl⟩
    rw [← hy] at p10 p52 p54 pS l7 z7 c7
    -- bit 54
    have c54 := clear_mask y 54 1 l7 (by decide)
    simp only [Nat.reducePow, Nat.reduceMul, Nat.reduceSub] at c54
    have z54 := pt_zero y 54 1
    rw [fld_54] at z54
    simp only [Nat.reducePow] at z54
    have l54 := pt0_lt (a := 54) (n := 1) l7
    have q10 := fld_pt_other y 54 1 0 10 1 (by decide) (by decide)
    have q52 := fld_pt_other y 54 1 0 52 1 (by decide) (by decide)
    have qS := fld_pt_other y 54 1 0 55 3 (by decide) (by decide)
    rw [fld_10, fld_10, p10] at q10
    rw [fld_52, fld_52, p52] at q52
    rw [fld_S, fld_S, pS] at qS
    obtain ⟨z, hz⟩ : ∃ z, z = pt y 54 1 0 := ⟨_, rfl⟩
    rw [← hz] at q10 q52 qS l54 z54 c54
    -- soft
    have cS := clear_mask z 55 3 l54 (by decide)
    simp only [Nat.reducePow, Nat.reduceMul, Nat.reduceSub] at cS
    have zS := pt_zero z 55 3
    rw [fld_S] at zS
    simp only [Nat.reducePow] at zS
    have lS := pt0_lt (a := 55) (n := 3) l54
    have r10 := fld_pt_other z 55 3 0 10 1 (by decide) (by decide)
    have r52 := fld_pt_other z 55 3 0 52 1 (by decide) (by decide)
    rw [fld_10, fld_10, q10] at r10
    rw [fld_52, fld_52, q52] at r52
    obtain ⟨u, hu⟩ : ∃ u, u = pt z 55 3 0 := ⟨_, rfl⟩
    rw [← hu] at r10 r52 lS zS cS
    have e4 : w &&& (18446744073709551615 - 270497452618936448) = u := by
      rw [← cS, ← c54, ← c7, ← cF, Nat.and_assoc, Nat.and_assoc, Nat.and_assoc]
      simp only [Nat.reduceAnd, Nat.reduceSub]
    by_cases k4 : k = 4
    · subst k4
      rw [if_neg (by decide), if_neg (by decide), if_pos rfl, e4, rest4]
      rw [zS, qS, z54, p54, z7, o7, zF]
      exact sub4 _ _ _ _ _
    -- bit 10
    have c10 := clear_mask u 10 1 lS (by decide)
    simp only [Nat.reducePow, Nat.reduceMul, Nat.reduceSub] at c10
    have z10 := pt_zero u 10 1
    rw [fld_10] at z10
    simp only [Nat.reducePow] at z10
    have l10 := pt0_lt (a := 10) (n := 1) lS
    have s52 := fld_pt_other u 10 1 0 52 1 (by decide) (by decide)
    rw [fld_52, fld_52, r52] at s52
    obtain ⟨v, hv⟩ : ∃ v, v = pt u 10 1 0 := ⟨_, rfl⟩
    rw [← hv] at s52 l10 z10 c10
    have e2 : w &&& (18446744073709551615 - 270497452618937472) = v := by
      rw [← c10, ← cS, ← c54, ← c7, ← cF, Nat.and_assoc, Nat.and_assoc, Nat.and_assoc, Nat.and_assoc]
      simp only [Nat.reduceAnd, Nat.reduceSub]
    by_cases k2 : k = 2
    · subst k2
      rw [if_pos rfl, e2, rest2]
      rw [z10, r10, zS, qS, z54, p54, z7, o7, zF]
      exact sub5 _ _ _ _ _ _
    have k3 : k = 3 := by omega
    subst k3
    -- bit 52
    have c52 := clear_mask v 52 1 l10 (by decide)
    simp only [Nat.reducePow, Nat.reduceMul, Nat.reduceSub] at c52
    have z52 := pt_zero v 52 1
    rw [fld_52] at z52
    simp only [Nat.reducePow] at z52
    have e3 : w &&& (18446744073709551615 - 275001052246307968) = pt v 52 1 0 := by
      rw [← c52, ← c10, ← cS, ← c54, ← c7, ← cF, Nat.and_assoc, Nat.and_assoc, Nat.and_assoc, Nat.and_assoc, Nat.and_assoc]
      simp only [Nat.reduceAnd, Nat.reduceSub]
    rw [if_neg (by decide), if_pos rfl, e3, rest3]
    rw [z52, s52, z10, r10, zS, qS, z54, p54, z7, o7, zF]
    exact sub6 _ _ _ _ _ _ _
  · have h2 : ¬ k = 2 := fun h => k234 (Or.inl h)
    have h3 : ¬ k = 3 := fun h => k234 (Or.inr (Or.inl h))
    have h4 : ¬ k = 4 := fun h => k234 (Or.inr (Or.inr h))
    rw [if_neg h2, if_neg h3, if_neg h4]
    unfold restN
    rw [if_neg k1, if_neg h2, if_neg h3, if_neg h4]
    have := Nat.and_two_pow_sub_one_eq_mod w 64
    simp only [Nat.reducePow, Nat.reduceSub] at this
    rw [Nat.sub_zero, this, Nat.mod_eq_of_lt hw]
end Go.Proofs.Ytjijgpdfoilijaa
