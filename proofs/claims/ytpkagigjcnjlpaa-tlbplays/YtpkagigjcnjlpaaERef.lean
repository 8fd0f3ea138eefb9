/- The document's answers: power, May, Is. -/
import Derived.Test.YtpkagigjcnjlpaaELeaf4
namespace Go.Proofs.Ytpkagigjcnjlpaa
open Go.RowKit

set_option maxHeartbeats 400000 in
theorem power_any (o : Int) (w : World) :
    Calls Try.prog 31 #[.int .i64 o] w fun e w' => e = .returned (.int .i64 (pw o)) ∧ w' = w := by
  rcases pw_cases o with ⟨h, e⟩ | ⟨h, e⟩ | ⟨h1, h2, e⟩
  all_goals
    rw [e]
    clear e
    go_enter Try.func31, Try.ntmps31
    go_wp2
    go_ret
    exact ⟨rfl, rfl⟩

def inB (x : Ent) : Prop := 0 ≤ x.asid ∧ x.asid ≤ 255 ∧ 0 ≤ x.first ∧ x.first ≤ 4095 ∧ 0 ≤ x.base
set_option maxHeartbeats 2000000 in
theorem May_any (x : Ent) (w : World) :
    Calls Try.prog 12 #[ev x] w fun e w' => e = .returned (.bool (mayB x)) ∧ Below w.heap.size w w' := by
  have L := fun v => (Below.refl w.heap.size w).alloc (Nat.le_refl _) v
  have hm0 : ¬ inB x → mayB x = false := fun h => by
    simp only [mayB, decide_eq_false_iff_not]
    rintro ⟨h1, h2, h3, h4, h5, _⟩
    exact h ⟨h1, h2, h3, h4, h5⟩
  have hm1 : inB x → mayB x = (ordB x.order && decide (x.first % pw x.order = 0)) := fun h => by
    obtain ⟨h1, h2, h3, h4, h5⟩ := h
    rw [Bool.eq_iff_iff]
    simp [mayB, ordB, h1, h2, h3, h4, h5]
  unfold inB at hm0 hm1
  have hP := fun w => power_any x.order w
  obtain ⟨x1, x2, x3, x4, x5, x6⟩ := x
  simp only at hm0 hm1 hP
  unfold ev
  simp only
  generalize mayB ⟨x1, x2, x3, x4, x5, x6⟩ = r at hm0 hm1 ⊢
  by_cases h1 : x1 < 0
  · obtain rfl := hm0 (by omega)
    clear hm0 hm1 hP
    go_enter Try.func12, Try.ntmps12
    go_wp2
    go_ret
    exact ⟨rfl, L _⟩
  by_cases h2 : 255 < x1
  · obtain rfl := hm0 (by omega)
    clear hm0 hm1 hP
    go_enter Try.func12, Try.ntmps12
    go_wp2
    go_ret
    exact ⟨rfl, L _⟩
  by_cases h3 : x2 < 0
  · obtain rfl := hm0 (by omega)
    clear hm0 hm1 hP
    go_enter Try.func12, Try.ntmps12
    go_wp2
    go_ret
    exact ⟨rfl, L _⟩
  by_cases h4 : 4095 < x2
  · obtain rfl := hm0 (by omega)
    clear hm0 hm1 hP
    go_enter Try.func12, Try.ntmps12
    go_wp2
    go_ret
    exact ⟨rfl, L _⟩
  by_cases h5 : x4 < 0
  · obtain rfl := hm0 (by omega)
    clear hm0 hm1 hP
    go_enter Try.func12, Try.ntmps12
    go_wp2
    go_ret
    exact ⟨rfl, L _⟩
  have hr := hm1 (by omega)
  clear hm0 hm1
  subst hr
  by_cases o0 : x3 = 0 ∨ x3 = 2 ∨ x3 = 3
  · have hb : ordB x3 = true := by simpa [ordB] using o0
    rw [hb, Bool.true_and]
    obtain ⟨p, hp, hp0⟩ : ∃ p : Int, pw x3 = p ∧ (p = 1 ∨ p = 4 ∨ p = 8) := by
      refine ⟨_, rfl, ?_⟩
      have := pw_cases x3
      omega
    rw [hp] at hP ⊢
    have hx2 : 0 ≤ x2 := by omega
    clear hp hb
    rcases o0 with rfl | rfl | rfl
    all_goals
      rcases hp0 with rfl | rfl | rfl
      all_goals
        go_enter Try.func12, Try.ntmps12
        go_wp2_with fail
        go_quiet ((go_at_call 31; exact Calls.quiet_of_same (hP _)))
        go_wp2
        go_ret
        refine ⟨ret_bool ?_, below_drewN (L _) _⟩
        first | rfl | (rw [Int.tmod_eq_emod_of_nonneg hx2]; rfl) | simp
  · have hb : ordB x3 = false := by simpa [ordB] using o0
    rw [hb, Bool.false_and]
    have q0 : (x3 == 0) = false := by simp; omega
    have q2 : (x3 == 2) = false := by simp; omega
    have q3 : (x3 == 3) = false := by simp; omega
    clear o0 hb hP
    go_enter Try.func12, Try.ntmps12
    go_wp2_with fail
    go_quiet (fail)
    go_wp2
    go_ret
    exact ⟨rfl, below_drewN (L _) _⟩

set_option maxHeartbeats 2000000 in
theorem Is_at (x1 x2 x3 x4 p : Int) (x5 x6 : Bool) (asid page : Int) (w : World) (hf : 0 ≤ x2 ∧ x2 ≤ 4095) (hp : 0 ≤ p ∧ p ≤ 8) (hP : ∀ w, Calls Try.prog 31 #[.int .i64 x3] w fun e w' => e = .returned (.int .i64 p) ∧ w' = w) :
    Calls Try.prog 29 #[.agg #[.int .i64 x1, .int .i64 x2, .int .i64 x3, .int .i64 x4, .bool x5, .bool x6], .int .i64 asid, .int .i64 page] w fun e w' => e = .returned (.bool (decide (x1 = asid) && decide (x2 ≤ page) && decide (page < x2 + p))) ∧ Below w.heap.size w w' := by
  have L := fun v => (Below.refl w.heap.size w).alloc (Nat.le_refl _) v
  by_cases h1 : x1 = asid
  · subst h1
    by_cases h2 : x2 ≤ page
    · go_enter Try.func29, Try.ntmps29
      go_wp2_with fail
      go_quiet ((go_at_call 31; exact Calls.quiet_of_same (hP _)))
      go_wp2
      all_goals go_ret
      all_goals refine ⟨ret_bool ?_, below_drewN (L _) _⟩
      all_goals simp_all
    · have h2' : decide (x2 ≤ page) = false := by simpa using h2
      clear h2
      go_enter Try.func29, Try.ntmps29
      go_wp2_with fail
      go_quiet (fail)
      go_wp2
      all_goals go_ret
      all_goals refine ⟨ret_bool ?_, below_drewN (L _) _⟩
      all_goals (simp_all; try omega)
  · have h1' : (x1 == asid) = false := by simpa using h1
    go_enter Try.func29, Try.ntmps29
    go_wp2_with fail
    go_quiet (fail)
    go_wp2
    all_goals go_ret
    all_goals refine ⟨ret_bool ?_, below_drewN (L _) _⟩
    all_goals simp_all
theorem Is_any (x : Ent) (asid page : Int) (w : World) (hm : mayB x = true) :
    Calls Try.prog 29 #[ev x, .int .i64 asid, .int .i64 page] w fun e w' => e = .returned (.bool (isB x asid page)) ∧ Below w.heap.size w w' := by
  obtain ⟨-, hf, -, ho⟩ := may_parts hm
  have := Is_at x.asid x.first x.order x.base (pw x.order) x.writ x.exe asid page w hf (by omega) (power_any x.order)
  rw [show isB x asid page = (decide (x.asid = asid) && decide (x.first ≤ page) && decide (page < x.first + pw x.order)) by rw [Bool.eq_iff_iff, isB_iff]; simp only [Bool.and_eq_true, decide_eq_true_eq, and_assoc]]
  exact this
end Go.Proofs.Ytpkagigjcnjlpaa
