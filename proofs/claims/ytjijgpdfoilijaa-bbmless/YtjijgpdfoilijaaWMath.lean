/- Plain mathematics of fields of words. Nothing of the program. -/
import Derived.Laws.BitsAllLaws
namespace Go.Proofs.Ytjijgpdfoilijaa

/-- May a field be? -/
def mayB (a n : Int) : Bool := decide (0 ≤ a ∧ 1 ≤ n ∧ n ≤ 64 ∧ a + n ≤ 64)
theorem mayB_true {a n : Int} (h : mayB a n = true) : 0 ≤ a ∧ 1 ≤ n ∧ n ≤ 64 ∧ a + n ≤ 64 := by simpa [mayB] using h
theorem mayB_false {a n : Int} (h : mayB a n = false) : ¬ (0 ≤ a ∧ 1 ≤ n ∧ n ≤ 64 ∧ a + n ≤ 64) := by simpa only [mayB, decide_eq_false_iff_not] using h

/-- The field of n bits from the bit a on. -/
def fld (x a n : Nat) : Nat := x / 2 ^ a % 2 ^ n
/-- x with that field being v. -/
def pt (x a n v : Nat) : Nat := x / 2 ^ (a + n) * 2 ^ (a + n) + (v * 2 ^ a + x % 2 ^ a)

theorem two_pow_pos' (n : Nat) : 0 < 2 ^ n := Nat.two_pow_pos n

theorem low_eq (n : Nat) (_h1 : 1 ≤ n) (h : n ≤ 64) : 18446744073709551615 / 2 ^ (64 - n) = 2 ^ n - 1 := by
  obtain ⟨k, rfl⟩ : ∃ k, n = 64 - k := ⟨64 - n, by omega⟩
  have hk : k ≤ 63 := by omega
  have e : 64 - (64 - k) = k := by omega
  rw [e]
  have : (18446744073709551616 : Nat) = 2 ^ (64 - k) * 2 ^ k := by rw [← Nat.pow_add, show 64 - k + k = 64 from by omega]
  have hp := Nat.two_pow_pos k
  have h1 : 18446744073709551615 = 2 ^ k * (2 ^ (64 - k) - 1) + (2 ^ k - 1) := by
    rw [Nat.mul_sub, Nat.mul_one, Nat.mul_comm (2 ^ k), ← this]
    have : 2 ^ k ≤ 18446744073709551616 := by
      have := Nat.pow_le_pow_right (show 0 < 2 by decide) (show k ≤ 64 by omega)
      simpa using this
    omega
  rw [h1, Nat.mul_add_div hp, Nat.div_eq_of_lt (by omega)]
  rfl

theorem fld_and (x a n : Nat) : (x / 2 ^ a) &&& (2 ^ n - 1) = fld x a n := by
  rw [Nat.and_two_pow_sub_one_eq_mod]; rfl

theorem fld_lt (x a n : Nat) : fld x a n < 2 ^ n := Nat.mod_lt _ (Nat.two_pow_pos n)

/-- One bit more at the low end. -/
theorem fld_step (x a k m : Nat) : fld x (a + k) (m + 1) = fld x (a + (k + 1)) m * 2 + x / 2 ^ (a + k) % 2 := by
  unfold fld
  rw [Nat.pow_succ 2 m, Nat.mul_comm (2 ^ m) 2, Nat.mod_mul, Nat.div_div_eq_div_mul, ← Nat.pow_succ]
  have : (a + k).succ = a + (k + 1) := by omega
  rw [this]
  omega

theorem fld_testBit (x a n i : Nat) : (fld x a n).testBit i = (decide (i < n) && x.testBit (a + i)) := by
  unfold fld
  rw [Nat.testBit_mod_two_pow, Nat.testBit_div_two_pow, Nat.add_comm]

theorem pt_testBit (x a n v i : Nat) (hv : v < 2 ^ n) : (pt x a n v).testBit i = if i < a then x.testBit i else if i < a + n then v.testBit (i - a) else x.testBit i := by
  unfold pt
  have h1 : v * 2 ^ a + x % 2 ^ a < 2 ^ (a + n) := by
    have := Nat.mod_lt x (Nat.two_pow_pos a)
    have h2 : (v + 1) * 2 ^ a ≤ 2 ^ n * 2 ^ a := Nat.mul_le_mul_right _ hv
    rw [Nat.add_mul, Nat.one_mul, ← Nat.pow_add, Nat.add_comm n a] at h2
    omega
  rw [Nat.mul_comm, Nat.testBit_two_pow_mul_add _ h1]
  by_cases h : i < a + n
  · rw [if_pos h]
    rw [Nat.mul_comm, Nat.testBit_two_pow_mul_add _ (Nat.mod_lt x (Nat.two_pow_pos a))]
    by_cases h3 : i < a
    · rw [if_pos h3, if_pos h3, Nat.testBit_mod_two_pow]; simp [h3]
    · rw [if_neg h3, if_neg h3, if_pos h]
  · rw [if_neg h, if_neg (by omega), if_neg h, Nat.testBit_div_two_pow]
    congr 1; omega

theorem pt_lt (x a n v : Nat) (hx : x < 18446744073709551616) (hv : v < 2 ^ n) (h : a + n ≤ 64) : pt x a n v < 18446744073709551616 := by
  have : pt x a n v < 2 ^ 64 := by
    apply Nat.lt_pow_two_of_testBit
    intro i hi
    rw [pt_testBit x a n v i hv, if_neg (by omega), if_neg (by omega)]
    exact Nat.testBit_lt_two_pow (Nat.lt_of_lt_of_le hx (by rw [show (18446744073709551616 : Nat) = 2 ^ 64 from rfl]; exact Nat.pow_le_pow_right (by decide) hi))
  simpa using this

theorem shl_lt (a n : Nat) (h : a + n ≤ 64) (v : Nat) (hv : v < 2 ^ n) : v * 2 ^ a < 18446744073709551616 := by
  have h2 : (v + 1) * 2 ^ a ≤ 2 ^ n * 2 ^ a := Nat.mul_le_mul_right _ hv
  rw [← Nat.pow_add] at h2
  have h3 : 2 ^ (n + a) ≤ 2 ^ 64 := Nat.pow_le_pow_right (by decide) (by omega)
  have := Nat.two_pow_pos a
  rw [Nat.add_mul] at h2
  simp only [Nat.reducePow] at h3
  omega

theorem put_bits (x a n v : Nat) (hx : x < 18446744073709551616) (hv : v < 2 ^ n) (h : a + n ≤ 64) :
    (x &&& (18446744073709551615 - (2 ^ n - 1) * 2 ^ a)) ||| (v * 2 ^ a) = pt x a n v := by
  apply Nat.eq_of_testBit_eq
  intro i
  have hm : (2 ^ n - 1) * 2 ^ a < 18446744073709551616 := shl_lt a n h _ (by have := Nat.two_pow_pos n; omega)
  have e : 18446744073709551615 - (2 ^ n - 1) * 2 ^ a = 2 ^ 64 - ((2 ^ n - 1) * 2 ^ a + 1) := by omega
  rw [pt_testBit x a n v i hv, Nat.testBit_or, Nat.testBit_and, e, Nat.testBit_two_pow_sub_succ (by simpa using hm), Nat.testBit_mul_two_pow, Nat.testBit_mul_two_pow, Nat.testBit_two_pow_sub_one]
  have hx64 : ∀ j, 64 ≤ j → x.testBit j = false := fun j hj =>
    Nat.testBit_lt_two_pow (Nat.lt_of_lt_of_le hx (by rw [show (18446744073709551616 : Nat) = 2 ^ 64 from rfl]; exact Nat.pow_le_pow_right (by decide) hj))
  have hvn : ∀ j, n ≤ j → v.testBit j = false := fun j hj => Nat.testBit_lt_two_pow (Nat.lt_of_lt_of_le hv (Nat.pow_le_pow_right (by decide) hj))
  by_cases h1 : i < a
  · rw [if_pos h1]
    have : i < 64 := by omega
    simp [this, show ¬ a ≤ i from by omega]
  · rw [if_neg h1]
    by_cases h2 : i < a + n
    · rw [if_pos h2]
      simp [show a ≤ i from by omega, show i - a < n from by omega, show i < 64 from by omega]
    · rw [if_neg h2]
      by_cases h3 : i < 64
      · simp [show a ≤ i from by omega, show ¬ i - a < n from by omega, h3, hvn (i - a) (by omega)]
      · simp [hx64 i (by omega), hvn (i - a) (by omega)]

theorem fld_pt (x a n v : Nat) (hv : v < 2 ^ n) : fld (pt x a n v) a n = v := by
  apply Nat.eq_of_testBit_eq
  intro i
  rw [fld_testBit, pt_testBit _ _ _ _ _ hv]
  by_cases h : i < n
  · simp [h, show ¬ a + i < a from by omega]
  · have : v.testBit i = false := Nat.testBit_lt_two_pow (Nat.lt_of_lt_of_le hv (Nat.pow_le_pow_right (by decide) (by omega)))
    simp [h, this]

theorem fld_pt_other (x a n v b m : Nat) (hv : v < 2 ^ n) (h : b + m ≤ a ∨ a + n ≤ b) : fld (pt x a n v) b m = fld x b m := by
  apply Nat.eq_of_testBit_eq
  intro i
  rw [fld_testBit, fld_testBit, pt_testBit _ _ _ _ _ hv]
  by_cases hi : i < m
  · simp only [hi, decide_true, Bool.true_and]
    rcases h with h | h
    · rw [if_pos (by omega)]
    · rw [if_neg (by omega), if_neg (by omega)]
  · simp [hi]

/-- The reference's put goes bit by bit, from the top: behind it stands what is above. -/
theorem div_step (p k : Nat) : p / 2 ^ k = p / 2 ^ (k + 1) * 2 + p / 2 ^ k % 2 := by
  rw [Nat.pow_succ, ← Nat.div_div_eq_div_mul]; omega

theorem bit_toNat (x k : Nat) : x / 2 ^ k % 2 = (x.testBit k).toNat := by
  rw [Nat.toNat_testBit]

theorem pt_bit (x a n v k : Nat) (hv : v < 2 ^ n) : pt x a n v / 2 ^ k % 2 = if a ≤ k ∧ k < a + n then v / 2 ^ (k - a) % 2 else x / 2 ^ k % 2 := by
  rw [bit_toNat, pt_testBit _ _ _ _ _ hv, bit_toNat, bit_toNat]
  by_cases h1 : k < a
  · rw [if_pos h1, if_neg (by omega)]
  · rw [if_neg h1]
    by_cases h2 : k < a + n
    · rw [if_pos h2, if_pos (by omega)]
    · rw [if_neg h2, if_neg (by omega)]

/-- v fits n bits, if no bit from n on is set. -/
theorem fits_of_bits (v n : Nat) (hv : v < 18446744073709551616) (h : ∀ i, n ≤ i → i < 64 → v / 2 ^ i % 2 ≠ 1) : v < 2 ^ n := by
  apply Nat.lt_pow_two_of_testBit
  intro i hi
  by_cases h64 : i < 64
  · have := h i hi h64
    rw [bit_toNat] at this
    cases hb : v.testBit i
    · rfl
    · rw [hb] at this; simp at this
  · exact Nat.testBit_lt_two_pow (Nat.lt_of_lt_of_le hv (by rw [show (18446744073709551616 : Nat) = 2 ^ 64 from rfl]; exact Nat.pow_le_pow_right (by decide) (by omega)))
theorem bits_of_fits (v n i : Nat) (h : v < 2 ^ n) (hi : n ≤ i) : v / 2 ^ i % 2 = 0 := by
  rw [Nat.div_eq_of_lt (Nat.lt_of_lt_of_le h (Nat.pow_le_pow_right (by decide) hi))]

end Go.Proofs.Ytjijgpdfoilijaa
