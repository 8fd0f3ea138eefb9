/- What a deed leaves covered, by the document's frames. No word of the program. -/
import Derived.Test.YtmmbfgkfidconaaDoorJX
import Derived.Test.YtmmbfgkfidconaaDoorJM
namespace Go.Proofs.YtmmbfgkfidconaaDoor
open Go.RowKit

theorem cov_off {n : Nat} {L L' : List Bk} {M : List Bool} {b : Bk} (ho : Okl n L) (hn : M.length = n) (h : ∀ x, covB L x = M.getD x false) (hc : ∀ x, cov L' x ↔ cov L x ∧ ¬ inB b x) (x : Nat) : covB L' x = (setK M b.1 (2 ^ b.2) false).getD x false := by
  rw [setK_get, ← h x]
  by_cases hb : b.1 ≤ x ∧ x < b.1 + 2 ^ b.2
  · rw [if_pos hb, (covB_false _ _).2 fun e => ((hc x).1 e).2 hb]
    split <;> rfl
  · rw [if_neg hb]
    by_cases hx : x < M.length
    · rw [if_pos hx]
      exact covB_eq ((hc x).trans ⟨fun e => e.1, fun e => ⟨e, hb⟩⟩)
    · rw [if_neg hx, (covB_false _ _).2]
      intro e
      obtain ⟨c, hcm, _, h2⟩ := ((hc x).1 e).1
      have := ho.top c hcm
      omega
theorem cov_on {n : Nat} {L L' : List Bk} {M : List Bool} {b : Bk} (ho : Okl n L) (hn : M.length = n) (hbn : bend b ≤ n) (h : ∀ x, covB L x = M.getD x false) (hc : ∀ x, cov L' x ↔ cov L x ∨ inB b x) (x : Nat) : covB L' x = (setK M b.1 (2 ^ b.2) true).getD x false := by
  rw [setK_get, ← h x]
  by_cases hb : b.1 ≤ x ∧ x < b.1 + 2 ^ b.2
  · have : b.1 + 2 ^ b.2 ≤ n := hbn
    rw [if_pos hb, if_pos (by omega), (covB_iff _ _).2 ((hc x).2 (Or.inr hb))]
  · rw [if_neg hb]
    by_cases hx : x < M.length
    · rw [if_pos hx]
      exact covB_eq ((hc x).trans ⟨fun e => e.elim id fun e => absurd e hb, Or.inl⟩)
    · rw [if_neg hx, (covB_false _ _).2]
      intro e
      rcases (hc x).1 e with ⟨c, hcm, _, h2⟩ | e
      · have := ho.top c hcm
        omega
      · exact hb e
theorem allB_M {L : List Bk} {M : List Bool} (h : ∀ x, covB L x = M.getD x false) (b : Bk) (f : Bool) : allB L b f ↔ allM M b f := by
  unfold allB allM
  constructor
  · intro h1 x hx; rw [← h x]; exact h1 x hx
  · intro h1 x hx; rw [h x]; exact h1 x hx
end Go.Proofs.YtmmbfgkfidconaaDoor
