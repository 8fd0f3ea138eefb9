/- tlb.isOf, meet, clash, Clash. -/
import Derived.Test.YtpkagigjcnjlpaaELeaf2
namespace Go.Proofs.Ytpkagigjcnjlpaa
open Go.RowKit

set_option maxHeartbeats 2000000 in
theorem isOf_at (x1 x2 x3 x4 q : Int) (x5 x6 : Bool) (asid page : Int) (w : World) (hf : 0 ≤ x2 ∧ x2 ≤ 4095) (h3 : (x3 = 0 ∧ q = x2 + 1) ∨ (x3 = 2 ∧ q = x2 + 4) ∨ (x3 = 3 ∧ q = x2 + 8)) :
    Calls Try.prog 37 #[.agg #[.int .i64 x1, .int .i64 x2, .int .i64 x3, .int .i64 x4, .bool x5, .bool x6], .int .i64 asid, .int .i64 page] w fun e w' => e = .returned (.bool (decide (x1 = asid) && decide (x2 ≤ page) && decide (page < q))) ∧ Below w.heap.size w w' := by
  rcases h3 with ⟨rfl, rfl⟩ | ⟨rfl, rfl⟩ | ⟨rfl, rfl⟩
  all_goals
    have L := fun v => (Below.refl w.heap.size w).alloc (Nat.le_refl _) v
    by_cases h1 : x1 = asid
    · subst h1
      by_cases h2 : x2 ≤ page
      · go_enter Try.func37, Try.ntmps37
        go_wp2_with fail
        go_quiet (fail)
        go_wp2
        all_goals go_ret
        all_goals refine ⟨ret_bool ?_, below_drewN (L _) _⟩
        all_goals simp_all
      · have h2' : decide (x2 ≤ page) = false := by simpa using h2
        clear h2
        go_enter Try.func37, Try.ntmps37
        go_wp2_with fail
        go_quiet (fail)
        go_wp2
        all_goals go_ret
        all_goals refine ⟨ret_bool ?_, below_drewN (L _) _⟩
        all_goals (simp_all; try omega)
    · have h1' : (x1 == asid) = false := by simpa using h1
      go_enter Try.func37, Try.ntmps37
      go_wp2_with fail
      go_quiet (fail)
      go_wp2
      all_goals go_ret
      all_goals refine ⟨ret_bool ?_, below_drewN (L _) _⟩
      all_goals simp_all

theorem isOf_any (x : Ent) (asid page : Int) (w : World) (hm : mayB x = true) :
    Calls Try.prog 37 #[ev x, .int .i64 asid, .int .i64 page] w fun e w' => e = .returned (.bool (isB x asid page)) ∧ Below w.heap.size w w' := by
  obtain ⟨-, hf, -, ho⟩ := may_parts hm
  have := isOf_at x.asid x.first x.order x.base (x.first + pw x.order) x.writ x.exe asid page w hf (by omega)
  rw [show isB x asid page = (decide (x.asid = asid) && decide (x.first ≤ page) && decide (page < x.first + pw x.order)) by rw [Bool.eq_iff_iff, isB_iff]; simp only [Bool.and_eq_true, decide_eq_true_eq, and_assoc]]
  exact this

def meetB (a b : Ent) : Bool := isB a b.asid b.first || isB b a.asid a.first
set_option maxHeartbeats 2000000 in
theorem meet_any (a b : Ent) (w : World) (ha : mayB a = true) (hb : mayB b = true) :
    Calls Try.prog 43 #[ev a, ev b] w fun e w' => e = .returned (.bool (meetB a b)) ∧ Below w.heap.size w w' := by
  have h1 := fun w => isOf_any a b.asid b.first w ha
  have h2 := fun w => isOf_any b a.asid a.first w hb
  unfold meetB
  clear ha hb
  generalize isB a b.asid b.first = r1 at h1 ⊢
  generalize isB b a.asid a.first = r2 at h2 ⊢
  have L := ((Below.refl w.heap.size w).alloc (Nat.le_refl _) (.cells (ecells a) 26)).alloc (by simp) (.cells (ecells b) 26)
  have A := (Laid.new w 26 (ecells a)).below ((Below.refl _ _).alloc (Nat.le_refl _) (.cells (ecells b) 26))
  have B := Laid.new (w.alloc (.cells (ecells a) 26)) 26 (ecells b)
  unfold ecells at L A B
  unfold ev at *
  cases r1
  all_goals
    go_enter Try.func43, Try.ntmps43
    go_wp2_with fail
    refine (h1 _).mono ?_
    rintro e w1 ⟨rfl, hb⟩
    have L1 := below_call L (by simp; omega) hb
    have A1 := A.below hb
    have B1 := B.below hb
    simp at B1
    have a0 := A1.cell 0
    have a1 := A1.cell 1
    have b0 := B1.cell 0
    have b1 := B1.cell 1
    have b2 := B1.cell 2
    have b3 := B1.cell 3
    have b4 := B1.cell 4
    have b5 := B1.cell 5
    simp at a0 a1 b0 b1 b2 b3 b4 b5
    clear hb A B A1 B1 L
    go_wp2_with (go_at_call 37; refine (h2 _).mono ?_; rintro e w2 ⟨rfl, hb⟩)
    all_goals go_ret
    first | exact ⟨rfl, L1⟩ | exact ⟨rfl, below_call L1 (by have := L1.size; omega) hb⟩
end Go.Proofs.Ytpkagigjcnjlpaa
