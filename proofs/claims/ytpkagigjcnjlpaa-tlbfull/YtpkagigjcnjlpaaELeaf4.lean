/- tlb.clash, Clash, Of. -/
import Derived.Test.YtpkagigjcnjlpaaELeaf3
namespace Go.Proofs.Ytpkagigjcnjlpaa
open Go.RowKit

theorem clash_meet (a b : Ent) : clashB a b = (!eqE a b && meetB a b) := rfl

/-- Two entries as the variables of a call. -/
theorem two_cells {w w1 : World} {B : Nat} {b : Nat} {x : Ent} (h : Laid w b 26 (ecells x)) (hB : w.heap.size = B) (hb : Below B w w1) : w1.cell? ⟨b, 0, none⟩ = some (.int .i64 x.asid) ∧ w1.cell? ⟨b, 1, none⟩ = some (.int .i64 x.first) ∧ w1.cell? ⟨b, 2, none⟩ = some (.int .i64 x.order) ∧ w1.cell? ⟨b, 3, none⟩ = some (.int .i64 x.base) ∧ w1.cell? ⟨b, 4, none⟩ = some (.bool x.writ) ∧ w1.cell? ⟨b, 5, none⟩ = some (.bool x.exe) := by
  subst hB
  have h1 := h.below hb
  exact ⟨h1.cell 0, h1.cell 1, h1.cell 2, h1.cell 3, h1.cell 4, h1.cell 5⟩
theorem Laid.ent {w : World} {b : Nat} {x : Ent} (h : Laid w b 26 (ecells x)) : w.cell? ⟨b, 0, none⟩ = some (.int .i64 x.asid) ∧ w.cell? ⟨b, 1, none⟩ = some (.int .i64 x.first) ∧ w.cell? ⟨b, 2, none⟩ = some (.int .i64 x.order) ∧ w.cell? ⟨b, 3, none⟩ = some (.int .i64 x.base) ∧ w.cell? ⟨b, 4, none⟩ = some (.bool x.writ) ∧ w.cell? ⟨b, 5, none⟩ = some (.bool x.exe) :=
  ⟨h.cell 0, h.cell 1, h.cell 2, h.cell 3, h.cell 4, h.cell 5⟩

set_option maxHeartbeats 2000000 in
theorem clash_any (a b : Ent) (w : World) (ha : mayB a = true) (hb : mayB b = true) :
    Calls Try.prog 32 #[ev a, ev b] w fun e w' => e = .returned (.bool (clashB a b)) ∧ Below w.heap.size w w' := by
  have hm := fun w => meet_any a b w ha hb
  have hn := neq_ent a b
  rw [clash_meet]
  clear ha hb
  generalize meetB a b = r at hm ⊢
  generalize eqE a b = q at hn ⊢
  have L := ((Below.refl w.heap.size w).alloc (Nat.le_refl _) (.cells (ecells a) 26)).alloc (by simp) (.cells (ecells b) 26)
  unfold ecells at L
  unfold ev at *
  cases q
  all_goals
    simp only [Bool.not_false, Bool.not_true, Bool.true_and, Bool.false_and] at hn ⊢
    go_enter Try.func32, Try.ntmps32
    go_wp2_with (go_at_call 43; refine (hm _).mono ?_; rintro e w2 ⟨rfl, hb⟩)
    all_goals go_ret
    first | exact ⟨rfl, L⟩ | exact ⟨rfl, below_call L (by simp; omega) hb⟩

set_option maxHeartbeats 2000000 in
theorem Clash_any (a b : Ent) (w : World) :
    Calls Try.prog 14 #[ev a, ev b] w fun e w' => e = .returned (.bool (mayB a && mayB b && clashB a b)) ∧ Below w.heap.size w w' := by
  have m1 := mayBe_any a
  have m2 := mayBe_any b
  have hc := fun w => clash_any a b w
  have L := ((Below.refl w.heap.size w).alloc (Nat.le_refl _) (.cells (ecells a) 26)).alloc (by simp) (.cells (ecells b) 26)
  have A := (Laid.new w 26 (ecells a)).below ((Below.refl _ _).alloc (Nat.le_refl _) (.cells (ecells b) 26))
  have B := Laid.new (w.alloc (.cells (ecells a) 26)) 26 (ecells b)
  simp at B
  have U : ecells = fun x => #[.int .i64 x.asid, .int .i64 x.first, .int .i64 x.order, .int .i64 x.base, .bool x.writ, .bool x.exe] := rfl
  have HB : Hid _ := And.intro A (And.intro B L)
  clear A B L U
  cases h1 : mayB a
  · rw [h1] at m1
    simp only [Bool.false_and]
    unfold ev at *
    clear hc m2 h1
    go_enter Try.func14, Try.ntmps14
    go_wp2_with (go_at_call 30; refine (m1 _).mono ?_; rintro e w2 ⟨rfl, hb⟩)
    go_ret
    exact ⟨rfl, below_call HB.out.2.2 (by simp; omega) hb⟩
  · rw [h1] at m1
    simp only [Bool.true_and]
    have hc := fun w => hc w h1
    clear h1
    cases h2 : mayB b
    · rw [h2] at m2
      simp only [Bool.false_and]
      unfold ev at *
      clear hc h2
      go_enter Try.func14, Try.ntmps14
      go_wp2_with fail
      refine (m1 _).mono ?_
      rintro e w1 ⟨rfl, hb⟩
      obtain ⟨A, B, L⟩ := HB.out
      have L1 := below_call L (by simp; omega) hb
      obtain ⟨b0, b1, b2, b3, b4, b5⟩ := (B.below hb).ent
      clear hb A B L HB m1
      go_wp2_with (go_at_call 30; refine (m2 _).mono ?_; rintro e w2 ⟨rfl, hb⟩)
      go_ret
      exact ⟨rfl, below_call L1 L1.size hb⟩
    · rw [h2] at m2
      simp only [Bool.true_and]
      have hc := fun w => hc w h2
      generalize clashB a b = r at hc ⊢
      unfold ev at *
      clear h2
      go_enter Try.func14, Try.ntmps14
      go_wp2_with fail
      refine (m1 _).mono ?_
      rintro e w1 ⟨rfl, hb⟩
      obtain ⟨A, B, L⟩ := HB.out
      have L1 := below_call L (by simp; omega) hb
      have A1 := A.below hb
      have B1 := B.below hb
      obtain ⟨b0, b1, b2, b3, b4, b5⟩ := B1.ent
      clear hb A B L HB m1
      go_wp2_with fail
      refine (m2 _).mono ?_
      rintro e w2 ⟨rfl, hb⟩
      have L2 := below_call L1 L1.size hb
      clear b0 b1 b2 b3 b4 b5
      obtain ⟨b0, b1, b2, b3, b4, b5⟩ := (B1.below hb).ent
      obtain ⟨a0, a1, a2, a3, a4, a5⟩ := (A1.below hb).ent
      clear hb A1 B1 L1 m2
      go_wp2_with (go_at_call 32; refine (hc _).mono ?_; rintro e w3 ⟨rfl, hb⟩)
      go_ret
      exact ⟨rfl, below_call L2 L2.size hb⟩
end Go.Proofs.Ytpkagigjcnjlpaa
