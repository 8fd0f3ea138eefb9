/- What pte.wordOf and pte.Encode answer, for all arguments. -/
import Derived.Test.YtjijgpdfoilijaaPSays
import Derived.Laws.Closers25b
namespace Go.Proofs.Ytjijgpdfoilijaa
open Go.RowKit

/-- What wordOf puts together. -/
def wOfI (k f : Int) (a b c o : Bool) (s : Int) : Int :=
  bits BinOp.or IntKind.u64 (bits BinOp.or IntKind.u64 (bits BinOp.or IntKind.u64 (bits BinOp.or IntKind.u64 (bits BinOp.or IntKind.u64 ((mustN k : Nat) : Int) (bits BinOp.or IntKind.u64 (IntKind.u64.wrap (IntKind.u64.wrap f * 4096)) (IntKind.u64.wrap (IntKind.u64.wrap s * 36028797018963968)))) (bitI a 128)) (bitI b 18014398509481984)) (bitI c 1024)) (bitI o 4503599627370496)

/-- The same, where frame and soft fit. -/
def wOfN (d : Dsc) : Nat := mustN d.kind + d.frame.toNat * 4096 + d.so.toNat * 36028797018963968 + bn (rightsB d.kind && !d.wr) * 128 + bn (rightsB d.kind && !d.ex) * 18014398509481984 + bn d.sn * 1024 + bn d.fo * 4503599627370496

theorem bitI_bn (b : Bool) (n : Nat) : bitI b (n : Int) = ((bn b * n : Nat) : Int) := by cases b <;> simp [bitI, bn]

theorem wOf_bd (k f : Int) (a b c o : Bool) (s : Int) : 0 ≤ wOfI k f a b c o s ∧ wOfI k f a b c o s ≤ 18446744073709551615 := bits_within .or .u64 _ _

theorem wrap_mul (f : Nat) (m : Nat) (h : f * m < 18446744073709551616) (hf : f < 18446744073709551616) : IntKind.u64.wrap (IntKind.u64.wrap (f : Int) * (m : Int)) = ((f * m : Nat) : Int) := by
  have e1 : IntKind.u64.wrap (f : Int) = (f : Int) := by rw [IntKind.wrap_u64]; omega
  rw [e1, show (f : Int) * (m : Int) = ((f * m : Nat) : Int) from (Int.natCast_mul _ _).symm, IntKind.wrap_u64]
  omega
theorem or_step (x a n v : Nat) (hv : v < 2 ^ n) (h : fld x a n = 0) (hx : x < 18446744073709551616) (hb : v * 2 ^ a < 18446744073709551616) : bits BinOp.or IntKind.u64 (x : Int) ((v * 2 ^ a : Nat) : Int) = ((x + v * 2 ^ a : Nat) : Int) := by
  rw [u64_or_nat _ _ hx hb, or_field x a n v hv h]

theorem must_dig (k : Int) : ∃ b0 b1 b2 b6 : Nat, mustN k = b0 + 2 * b1 + 4 * b2 + 64 * b6 ∧ b0 < 2 ∧ b1 < 2 ∧ b2 < 16 ∧ b6 < 2 := by
  unfold mustN
  repeat' split
  · exact ⟨1, 1, 0, 0, by decide⟩
  · exact ⟨1, 0, 0, 1, by decide⟩
  · exact ⟨1, 1, 0, 1, by decide⟩
  · exact ⟨0, 1, 2, 0, by decide⟩
  · exact ⟨0, 0, 0, 0, by decide⟩
theorem must_lt (k : Int) : mustN k < 128 := by
  unfold mustN
  repeat' split
  all_goals decide
/-- Fields of a word that is put together. -/
theorem sum_fields {x f s p q c o : Nat} (k : Int) (hf : f < 512) (hs : s < 8) (hp : p ≤ 1) (hq : q ≤ 1) (hc : c ≤ 1) (ho : o ≤ 1)
    (hx : x = f * 4096 + (s * 36028797018963968 + p * 128 + q * 18014398509481984 + c * 1024 + o * 4503599627370496) + mustN k) :
    w7 x = p ∧ w10 x = c ∧ w52 x = o ∧ w54 x = q := by
  obtain ⟨b0, b1, b2, b6, hm, h0, h1, h2, h6⟩ := must_dig k
  rw [hm] at hx
  obtain ⟨_, _, _, g7, g10, g52, g54, _⟩ := lin_fields h0 h1 h2 h6 hf hs hp hq hc ho hx
  exact ⟨g7, g10, g52, g54⟩

theorem lin_fin {x0 x1 x2 x3 x4 x5 y f s a b c o m : Nat} (h0 : x0 = f * 4096 + s * 36028797018963968) (h1 : x1 = x0 + m) (h2 : x2 = x1 + a * 128) (h3 : x3 = x2 + b * 18014398509481984) (h4 : x4 = x3 + c * 1024) (h5 : x5 = x4 + o * 4503599627370496)
    (hy : y = f * 4096 + (s * 36028797018963968 + a * 128 + b * 18014398509481984 + c * 1024 + o * 4503599627370496) + m) : x5 = y := by omega
theorem wOf_fits (k : Int) (f s y5 : Nat) (a b c o : Bool) (hf : f < 512) (hs : s < 8)
    (hy5 : y5 = f * 4096 + (s * 36028797018963968 + bn a * 128 + bn b * 18014398509481984 + bn c * 1024 + bn o * 4503599627370496) + mustN k) :
    wOfI k f a b c o s = (y5 : Int) := by
  have hm := must_lt k
  have ea := bn_le a
  have eb := bn_le b
  have ec := bn_le c
  have eo := bn_le o
  unfold wOfI
  have e1 := wrap_mul f 4096 (by omega) (by omega)
  have e2 := wrap_mul s 36028797018963968 (by omega) (by omega)
  rw [show ((4096 : Nat) : Int) = 4096 from rfl] at e1
  rw [show ((36028797018963968 : Nat) : Int) = 36028797018963968 from rfl] at e2
  rw [e1, e2]
  have p7 : (2 : Nat) ^ 7 = 128 := by simp only [Nat.reducePow]
  have p10 : (2 : Nat) ^ 10 = 1024 := by simp only [Nat.reducePow]
  have p52 : (2 : Nat) ^ 52 = 4503599627370496 := by simp only [Nat.reducePow]
  have p54 : (2 : Nat) ^ 54 = 18014398509481984 := by simp only [Nat.reducePow]
  have p55 : (2 : Nat) ^ 55 = 36028797018963968 := by simp only [Nat.reducePow]
  obtain ⟨z, hz⟩ : ∃ z : Nat, z = 0 := ⟨_, rfl⟩
  -- the frame and the soft bits
  have f55 : fld (f * 4096) 55 3 = 0 := by
    rw [fld_S]; unfold wS
    rw [Nat.div_eq_of_lt (by omega)]
  have s1 := or_step (f * 4096) 55 3 s (by omega) f55 (by omega) (by rw [p55]; omega)
  rw [p55] at s1
  rw [s1]
  obtain ⟨x0, hx0⟩ : ∃ x0, x0 = f * 4096 + s * 36028797018963968 := ⟨_, rfl⟩
  rw [← hx0]
  -- what each word of the kind has
  have f0 : fld x0 0 7 = 0 := by
    unfold fld
    rw [Nat.pow_zero, Nat.div_one, p7]
    omega
  have s2 := or_step x0 0 7 (mustN k) (by omega) f0 (by omega) (by rw [Nat.pow_zero]; omega)
  rw [Nat.pow_zero, Nat.mul_one] at s2
  rw [show bits BinOp.or IntKind.u64 ((mustN k : Nat) : Int) (x0 : Int) = ((x0 + mustN k : Nat) : Int) from by
    rw [u64_or_nat _ _ (by omega) (by omega), Nat.or_comm, ← u64_or_nat _ _ (by omega) (by omega)]; exact s2]
  obtain ⟨x1, hx1⟩ : ∃ x1, x1 = x0 + mustN k := ⟨_, rfl⟩
  rw [← hx1]
  obtain ⟨y1, hy1⟩ : ∃ y1, y1 = f * 4096 + (s * 36028797018963968 + z * 128 + z * 18014398509481984 + z * 1024 + z * 4503599627370496) + mustN k := ⟨_, rfl⟩
  have q1 : x1 = y1 := by omega
  obtain ⟨g7, -, -, -⟩ := sum_fields k hf hs (by omega) (by omega) (by omega) (by omega) (q1.trans hy1)
  -- read-only
  have s3 := or_step x1 7 1 (bn a) (by omega) (by rw [fld_7, g7, hz]) (by omega) (by rw [p7]; omega)
  rw [p7] at s3
  rw [show (128 : Int) = ((128 : Nat) : Int) from rfl, bitI_bn, s3]
  obtain ⟨x2, hx2⟩ : ∃ x2, x2 = x1 + bn a * 128 := ⟨_, rfl⟩
  rw [← hx2]
  obtain ⟨y2, hy2⟩ : ∃ y2, y2 = f * 4096 + (s * 36028797018963968 + bn a * 128 + z * 18014398509481984 + z * 1024 + z * 4503599627370496) + mustN k := ⟨_, rfl⟩
  have q2 : x2 = y2 := by omega
  obtain ⟨-, -, -, g54⟩ := sum_fields k hf hs (by omega) (by omega) (by omega) (by omega) (q2.trans hy2)
  -- not to be run
  have s4 := or_step x2 54 1 (bn b) (by omega) (by rw [fld_54, g54, hz]) (by omega) (by rw [p54]; omega)
  rw [p54] at s4
  rw [show (18014398509481984 : Int) = ((18014398509481984 : Nat) : Int) from rfl, bitI_bn, s4]
  obtain ⟨x3, hx3⟩ : ∃ x3, x3 = x2 + bn b * 18014398509481984 := ⟨_, rfl⟩
  rw [← hx3]
  obtain ⟨y3, hy3⟩ : ∃ y3, y3 = f * 4096 + (s * 36028797018963968 + bn a * 128 + bn b * 18014398509481984 + z * 1024 + z * 4503599627370496) + mustN k := ⟨_, rfl⟩
  have q3 : x3 = y3 := by omega
  obtain ⟨-, g10, -, -⟩ := sum_fields k hf hs (by omega) (by omega) (by omega) (by omega) (q3.trans hy3)
  -- seen
  have s5 := or_step x3 10 1 (bn c) (by omega) (by rw [fld_10, g10, hz]) (by omega) (by rw [p10]; omega)
  rw [p10] at s5
  rw [show (1024 : Int) = ((1024 : Nat) : Int) from rfl, bitI_bn, s5]
  obtain ⟨x4, hx4⟩ : ∃ x4, x4 = x3 + bn c * 1024 := ⟨_, rfl⟩
  rw [← hx4]
  obtain ⟨y4, hy4⟩ : ∃ y4, y4 = f * 4096 + (s * 36028797018963968 + bn a * 128 + bn b * 18014398509481984 + bn c * 1024 + z * 4503599627370496) + mustN k := ⟨_, rfl⟩
  have q4 : x4 = y4 := by omega
  obtain ⟨-, -, g52, -⟩ := sum_fields k hf hs (by omega) (by omega) (by omega) (by omega) (q4.trans hy4)
  -- folded
  have s6 := or_step x4 52 1 (bn o) (by omega) (by rw [fld_52, g52, hz]) (by omega) (by rw [p52]; omega)
  rw [p52] at s6
  rw [show (4503599627370496 : Int) = ((4503599627370496 : Nat) : Int) from rfl, bitI_bn, s6]
  obtain ⟨x5, hx5⟩ : ∃ x5, x5 = x4 + bn o * 4503599627370496 := ⟨_, rfl⟩
  rw [← hx5]
  have q5 : x5 = y5 := lin_fin hx0 hx1 hx2 hx3 hx4 hx5 hy5
  rw [q5]

/-- Where it can be said, wordOf is the word that says it. -/
theorem wOf_word (l : Int) (d : Dsc) (h : mayD l d = true) : wOfI d.kind d.frame (rightsB d.kind && !d.wr) (rightsB d.kind && !d.ex) d.sn d.fo d.so = ((wordD d : Nat) : Int) := by
  obtain ⟨k, f, a, b, c, o, s⟩ := d
  simp only [mayD, Bool.and_eq_true, decide_eq_true_eq] at h
  obtain ⟨⟨l0, l3, f0, f1, s0, s1⟩, h⟩ := h
  obtain ⟨f, rfl⟩ := Int.eq_ofNat_of_zero_le f0
  obtain ⟨s, rfl⟩ := Int.eq_ofNat_of_zero_le s0
  simp only
  have hz : bn false = 0 := rfl
  apply wOf_fits k f s _ _ _ c o (by omega) (by omega)
  by_cases k0 : k = 0
  · subst k0
    simp at h
    obtain ⟨⟨⟨⟨⟨rfl, rfl⟩, rfl⟩, rfl⟩, rfl⟩, rfl⟩ := h
    simp [rightsB, mustN, wordD, bn]
  by_cases k1 : k = 1
  · subst k1
    simp at h
    obtain ⟨⟨⟨⟨⟨l2, rfl⟩, rfl⟩, rfl⟩, rfl⟩, rfl⟩ := h
    rw [word1 _ rfl]
    simp [rightsB, mustN, bn]
  have e2 : rightsB 2 = true := rfl
  have e3 : rightsB 3 = true := rfl
  have e4 : rightsB 4 = true := rfl
  by_cases k2 : k = 2
  · subst k2
    rw [word2 _ rfl, e2, Bool.true_and, Bool.true_and, show mustN 2 = 65 from rfl]
    unfold sideN
    simp only [Int.toNat_natCast]
  by_cases k3 : k = 3
  · subst k3
    rw [word3 _ rfl, e3, Bool.true_and, Bool.true_and, show mustN 3 = 67 from rfl]
    unfold sideN
    simp only [Int.toNat_natCast]
  by_cases k4 : k = 4
  · subst k4
    rw [word4 _ rfl, e4, Bool.true_and, Bool.true_and, show mustN 4 = 10 from rfl]
    unfold sideN
    simp only [Int.toNat_natCast]
  simp [k0, k1, k2, k3, k4] at h

/-- What Encode comes to: the word that is put together says d just if d can be said, and is its word then. -/
theorem enc_iff (l : Int) (d : Dsc) (x : Nat) (h0 : 0 ≤ l) (h3 : l ≤ 3) (h5 : d.kind ≠ 5) (hx : wOfI d.kind d.frame (rightsB d.kind && !d.wr) (rightsB d.kind && !d.ex) d.sn d.fo d.so = (x : Int)) :
    (mayD l d = true → saysD l x = d ∧ x = wordD d) ∧ (mayD l d = false → saysD l x ≠ d) := by
  refine ⟨fun h => ?_, fun h e => ?_⟩
  · have := wOf_word l d h
    rw [hx] at this
    have e : x = wordD d := by omega
    exact ⟨by rw [e]; exact says_word l d h, e⟩
  · unfold saysD at e
    cases ho : okN l x
    · rw [ho] at e
      exact h5 (by rw [← e]; rfl)
    · rw [ho] at e
      have := (says_may h0 h3 ho).1
      rw [show tellD l x = d from e, h] at this
      exact absurd this (by decide)
end Go.Proofs.Ytjijgpdfoilijaa
