/- PteLevels answers true for all arguments. -/
import Derived.Test.YtjijgpdfoilijaaPBack
namespace Go.Proofs.Ytjijgpdfoilijaa
open Go.RowKit

/-- Is a word reserved at another level? -/
def badAt (l o k : Int) : Bool := decide (k = 1 ∧ o = 3 ∨ (k = 2 ∨ k = 3) ∧ o ≠ l)

theorem side_mul (d : Dsc) : ∃ m : Nat, sideN d = 128 * m := by
  unfold sideN
  refine ⟨d.so.toNat * 281474976710656 + bn (!d.wr) + bn (!d.ex) * 140737488355328 + bn d.sn * 8 + bn d.fo * 35184372088832, ?_⟩
  obtain ⟨y, hy⟩ : ∃ y, y = d.so.toNat * 281474976710656 + bn (!d.wr) + bn (!d.ex) * 140737488355328 + bn d.sn * 8 + bn d.fo * 35184372088832 := ⟨_, rfl⟩
  obtain ⟨z, hz⟩ : ∃ z, z = d.so.toNat * 36028797018963968 + bn (!d.wr) * 128 + bn (!d.ex) * 18014398509481984 + bn d.sn * 1024 + bn d.fo * 4503599627370496 := ⟨_, rfl⟩
  rw [← hy, ← hz]
  omega

theorem word_mod {l : Int} {d : Dsc} (h : mayD l d = true) : (d.kind = 0 ∧ wordD d = 0) ∨ (d.kind = 1 ∧ l ≠ 3 ∧ wordD d % 128 = 3) ∨ (d.kind = 2 ∧ l = 2 ∧ wordD d % 128 = 65) ∨ (d.kind = 3 ∧ l = 3 ∧ wordD d % 128 = 67) ∨ (d.kind = 4 ∧ wordD d % 128 = 10) := by
  simp only [mayD, Bool.and_eq_true, decide_eq_true_eq] at h
  obtain ⟨⟨l0, l3, f0, f1, s0, s1⟩, h⟩ := h
  obtain ⟨m, hm⟩ := side_mul d
  by_cases k0 : d.kind = 0
  · exact Or.inl ⟨k0, by unfold wordD; rw [if_pos k0]⟩
  by_cases k1 : d.kind = 1
  · rw [k1] at h
    simp at h
    exact Or.inr (Or.inl ⟨k1, by omega, by rw [word1 d k1]; omega⟩)
  by_cases k2 : d.kind = 2
  · rw [k2] at h
    simp at h
    exact Or.inr (Or.inr (Or.inl ⟨k2, h.1.1, by rw [word2 d k2, hm]; omega⟩))
  by_cases k3 : d.kind = 3
  · rw [k3] at h
    simp at h
    exact Or.inr (Or.inr (Or.inr (Or.inl ⟨k3, h, by rw [word3 d k3, hm]; omega⟩)))
  by_cases k4 : d.kind = 4
  · exact Or.inr (Or.inr (Or.inr (Or.inr ⟨k4, by rw [word4 d k4, hm]; omega⟩)))
  simp [k0, k1, k2, k3, k4] at h

theorem says_at_bad {l o : Int} {d : Dsc} (h : mayD l d = true) (h0 : 0 ≤ o) (h3 : o ≤ 3) (hb : badAt l o d.kind = true) : saysD o (wordD d) = badD := by
  simp only [badAt, decide_eq_true_eq] at hb
  have hno : okN o (wordD d) = false := by
    cases ho : okN o (wordD d)
    · rfl
    exfalso
    obtain ⟨q1, q2⟩ := says_may h0 h3 ho
    have hk := tell_kind o (wordD d)
    have m2 := word_mod q1
    rw [q2, hk] at m2
    have n5 := (okN_true ho).1
    rcases word_mod h with ⟨k, e⟩ | ⟨k, e, e2⟩ | ⟨k, e, e2⟩ | ⟨k, e, e2⟩ | ⟨k, e⟩
    all_goals (rcases kindN_cases o (wordD d) with ⟨c, _⟩ | ⟨c, c1, c2, c3⟩ | ⟨c, c1, c2, c3⟩ | ⟨c, c1, c2, c3⟩ | ⟨c, c1, c2⟩ | ⟨c, _⟩)
    all_goals (rw [c] at m2 n5; omega)
  unfold saysD
  rw [hno]
  rfl

theorem says_at_good {l o : Int} {d : Dsc} (h : mayD l d = true) (h0 : 0 ≤ o) (h3 : o ≤ 3) (hb : badAt l o d.kind = false) : saysD o (wordD d) = d := by
  simp only [badAt, decide_eq_false_iff_not] at hb
  apply says_word
  simp only [mayD, Bool.and_eq_true, decide_eq_true_eq] at h ⊢
  obtain ⟨⟨l0, l3, f0, f1, s0, s1⟩, h⟩ := h
  refine ⟨⟨h0, h3, f0, f1, s0, s1⟩, ?_⟩
  by_cases k0 : d.kind = 0
  · rw [k0] at h ⊢; simpa using h
  by_cases k1 : d.kind = 1
  · rw [k1] at h ⊢; simp at h ⊢
    exact ⟨⟨⟨⟨⟨by omega, h.1.1.1.1.2⟩, h.1.1.1.2⟩, h.1.1.2⟩, h.1.2⟩, h.2⟩
  by_cases k2 : d.kind = 2
  · rw [k2] at h ⊢; simp at h ⊢
    exact ⟨⟨by omega, h.1.2⟩, h.2⟩
  by_cases k3 : d.kind = 3
  · rw [k3] at h ⊢; simp at h ⊢
    omega
  by_cases k4 : d.kind = 4
  · rw [k4] at h ⊢; simpa using h
  simp [k0, k1, k2, k3, k4] at h

end Go.Proofs.Ytjijgpdfoilijaa
