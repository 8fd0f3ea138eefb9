/- PteBack and PteUnlike answer true for all arguments. -/
import Derived.Test.YtjijgpdfoilijaaPBox
namespace Go.Proofs.Ytjijgpdfoilijaa
open Go.RowKit

theorem wordD_lt {l : Int} {d : Dsc} (h : mayD l d = true) : wordD d < 18446744073709551616 := by
  have h1 := wOf_word l d h
  have h2 := wOf_bd d.kind d.frame (rightsB d.kind && !d.wr) (rightsB d.kind && !d.ex) d.sn d.fo d.so
  omega

/-- What comes of Decode and Encode behind it, for a word. -/
theorem says_back {l : Int} {x : Nat} (hl : lvlB l = true) (h : (saysD l x).kind ≠ 5) : mayD l (saysD l x) = true ∧ wordD (saysD l x) = x := by
  obtain ⟨l0, l3⟩ := lvlB_true hl
  unfold saysD at *
  cases ho : okN l x
  · rw [ho] at h
    exact absurd rfl h
  · rw [ho] at h
    exact says_may l0 l3 ho

theorem nat_of_u64 {x : Int} (h : 0 ≤ x ∧ x ≤ 18446744073709551615) : ∃ n : Nat, x = n ∧ n < 18446744073709551616 := by
  obtain ⟨n, rfl⟩ := Int.eq_ofNat_of_zero_le h.1
  exact ⟨n, rfl, by omega⟩
theorem word_inj {l : Int} {a b : Dsc} (ha : mayD l a = true) (hb : mayD l b = true) : ((((wordD a : Nat) : Int) == ((wordD b : Nat) : Int)) == eqD a b) = true := by
  rw [beq_iff_eq, Bool.eq_iff_iff, beq_iff_eq, eqD_iff]
  constructor
  · intro h
    have : wordD a = wordD b := by omega
    rw [← says_word l a ha, ← says_word l b hb, this]
  · rintro rfl; rfl

end Go.Proofs.Ytjijgpdfoilijaa
