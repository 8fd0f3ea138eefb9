/- tlb.mayBe, isOf, meet, clash, Clash. -/
import Derived.Test.YtpkagigjcnjlpaaELeaf
namespace Go.Proofs.Ytpkagigjcnjlpaa
open Go.RowKit

theorem mayB_of {x : Ent} (h : 0 ≤ x.asid ∧ x.asid ≤ 255) (ho : ordB x.order = true) (hf : x.first < 4096) : mayB x = (alB x.first x.order && decide (0 ≤ x.base)) := by
  have ho' : x.order = 0 ∨ x.order = 2 ∨ x.order = 3 := by simpa [ordB] using ho
  rw [Bool.eq_iff_iff, Bool.and_eq_true]
  simp only [mayB, alB, decide_eq_true_eq]
  constructor
  · rintro ⟨_, _, h3, _, h5, _, h7⟩; exact ⟨⟨h3, h7⟩, h5⟩
  · rintro ⟨⟨h3, h7⟩, h5⟩; exact ⟨h.1, h.2, h3, by omega, h5, ho', h7⟩
theorem mayB_no {x : Ent} (h : ¬ (0 ≤ x.asid ∧ x.asid ≤ 255) ∨ ordB x.order = false ∨ ¬ x.first < 4096) : mayB x = false := by
  have ho : ordB x.order = false → ¬ (x.order = 0 ∨ x.order = 2 ∨ x.order = 3) := by simp [ordB]
  simp only [mayB, decide_eq_false_iff_not]
  rintro ⟨h1, h2, _, h4, _, h6, _⟩
  rcases h with h | h | h
  · exact h ⟨h1, h2⟩
  · exact ho h h6
  · omega

set_option maxHeartbeats 1000000 in
theorem mayBe_any (x : Ent) (w : World) :
    Calls Try.prog 30 #[ev x] w fun e w' => e = .returned (.bool (mayB x)) ∧ Below w.heap.size w w' := by
  have L : Below w.heap.size w (w.alloc (.cells (ecells x) 26)) := (Below.refl _ _).alloc (Nat.le_refl _) _
  unfold ecells at L
  unfold ev
  have hO := mayOrder_any x.order
  by_cases h1 : 0 ≤ x.asid ∧ x.asid ≤ 255
  · cases h2 : ordB x.order with
    | false =>
      rw [h2] at hO
      have hm := mayB_no (Or.inr (Or.inl h2))
      rw [hm]
      obtain ⟨h1, h1'⟩ := h1
      clear hm h2
      go_enter Try.func30, Try.ntmps30
      go_wp2_with (go_at_call 41; refine (hO _).mono ?_; rintro e w1 ⟨rfl, hw⟩; obtain rfl := hw.symm; clear hw)
      all_goals go_ret
      all_goals exact ⟨rfl, L⟩
    | true =>
      rw [h2] at hO
      by_cases h3 : x.first < 4096
      · have hA := fun w => isAligned_any x.first x.order w h3 h2
        have hm := mayB_of h1 h2 h3
        rw [hm]
        obtain ⟨h1, h1'⟩ := h1
        clear hm h2
        generalize alB x.first x.order = r at hA ⊢
        cases r
        all_goals
          go_enter Try.func30, Try.ntmps30
          go_wp2_with (first | (go_at_call 41; refine (hO _).mono ?_; rintro e w1 ⟨rfl, hw⟩; obtain rfl := hw.symm; clear hw) | (go_at_call 42; refine (hA _).mono ?_; rintro e w1 ⟨rfl, hw⟩; obtain rfl := hw.symm; clear hw))
          all_goals go_ret
          all_goals refine ⟨ret_bool ?_, L⟩
          all_goals simp_all
      · have hm := mayB_no (x := x) (Or.inr (Or.inr h3))
        rw [hm]
        obtain ⟨h1, h1'⟩ := h1
        clear hm h2
        go_enter Try.func30, Try.ntmps30
        go_wp2_with (go_at_call 41; refine (hO _).mono ?_; rintro e w1 ⟨rfl, hw⟩; obtain rfl := hw.symm; clear hw)
        all_goals go_ret
        all_goals exact ⟨rfl, L⟩
  · have hm := mayB_no (x := x) (Or.inl h1)
    rw [hm]
    clear hm
    by_cases h0 : 0 ≤ x.asid
    all_goals
      have h0' : ¬ x.asid ≤ 255 ∨ ¬ 0 ≤ x.asid := by omega
      try have h0'' : ¬ x.asid ≤ 255 := by omega
      clear h1 h0' hO
      go_enter Try.func30, Try.ntmps30
      go_wp2
      all_goals go_ret
      all_goals exact ⟨rfl, L⟩

end Go.Proofs.Ytpkagigjcnjlpaa
