/- TlbClashes: the walk. -/
import Derived.Test.YtpkagigjcnjlpaaEUp
namespace Go.Proofs.Ytpkagigjcnjlpaa
open Go.RowKit

set_option maxRecDepth 100000 in
set_option maxHeartbeats 4000000 in
theorem walk_tlbClashes (a b : Ent) (w : World) (ha : a.ok) (hb : b.ok) :
    Calls Try.prog 4 #[ev a, ev b] w fun e w' => e = .returned (.bool true) ∧ Below w.heap.size w w' := by
  have m1 := May_any a
  have m2 := May_any b
  have q1 := Clash_any a b
  have q2 := Clash_any b a
  have q3 := Clash_any a a
  rw [clash_comm b a, show (mayB b && mayB a && clashB a b) = (mayB a && mayB b && clashB a b) by rw [Bool.and_comm (mayB b)]] at q2
  rw [clash_self, Bool.and_false] at q3
  have hR := fun w x y => refClash_any a b w x y ha.2.2.2.2 hb.2.2.2.2
  have L := ((Below.refl w.heap.size w).alloc (Nat.le_refl _) (.cells (ecells a) 26)).alloc (by simp) (.cells (ecells b) 26)
  have A := (Laid.new w 26 (ecells a)).below ((Below.refl _ _).alloc (Nat.le_refl _) (.cells (ecells b) 26))
  have B := Laid.new (w.alloc (.cells (ecells a) 26)) 26 (ecells b)
  rw [show (w.alloc (.cells (ecells a) 26)).heap.size = w.heap.size + 1 by simp] at B
  have H0 : Hid (Laid ((w.alloc (.cells (ecells a) 26)).alloc (.cells (ecells b) 26)) w.heap.size 26 (ecells a) ∧ Laid ((w.alloc (.cells (ecells a) 26)).alloc (.cells (ecells b) 26)) (w.heap.size + 1) 26 (ecells b) ∧ Below w.heap.size w ((w.alloc (.cells (ecells a) 26)).alloc (.cells (ecells b) 26))) := ⟨A, B, L⟩
  clear A B L ha hb
  unfold ev at *
  go_enter Try.func4, Try.ntmps4
  go_wp2_with fail
  refine (up_any _).mono ?_
  rintro e w1 ⟨rfl, hb⟩
  have H1 : Hid (Laid w1 w.heap.size 26 (ecells a) ∧ Laid w1 (w.heap.size + 1) 26 (ecells b) ∧ Below w.heap.size w w1) := ⟨H0.out.1.below hb, H0.out.2.1.below hb, below_call H0.out.2.2 (by simp; omega) hb⟩
  clear hb H0
  obtain ⟨a0, a1, a2, a3, a4, a5⟩ := H1.out.1.ent
  obtain ⟨b0, b1, b2, b3, b4, b5⟩ := H1.out.2.1.ent
  cases h1 : mayB a
  · rw [h1] at m1 q1 q2
    simp only [Bool.false_and] at q1 q2
    clear h1 hR m2
    go_wp2_with fail
    refine (m1 _).mono ?_
    rintro e w2 ⟨rfl, hb⟩
    have H2 : Hid (Laid w2 w.heap.size 26 (ecells a) ∧ Laid w2 (w.heap.size + 1) 26 (ecells b) ∧ Below w.heap.size w w2) := ⟨H1.out.1.below hb, H1.out.2.1.below hb, below_call H1.out.2.2 H1.out.2.2.size hb⟩
    clear hb a0 a1 a2 a3 a4 a5 b0 b1 b2 b3 b4 b5 H1
    obtain ⟨a0, a1, a2, a3, a4, a5⟩ := H2.out.1.ent
    obtain ⟨b0, b1, b2, b3, b4, b5⟩ := H2.out.2.1.ent
    go_wp2_with fail
    refine (q1 _).mono ?_
    rintro e w3 ⟨rfl, hb⟩
    have H3 : Hid (Laid w3 w.heap.size 26 (ecells a) ∧ Laid w3 (w.heap.size + 1) 26 (ecells b) ∧ Below w.heap.size w w3) := ⟨H2.out.1.below hb, H2.out.2.1.below hb, below_call H2.out.2.2 H2.out.2.2.size hb⟩
    clear hb a0 a1 a2 a3 a4 a5 b0 b1 b2 b3 b4 b5 H2
    obtain ⟨a0, a1, a2, a3, a4, a5⟩ := H3.out.1.ent
    obtain ⟨b0, b1, b2, b3, b4, b5⟩ := H3.out.2.1.ent
    go_wp2_with fail
    refine (q2 _).mono ?_
    rintro e w4 ⟨rfl, hb⟩
    have H4 : Hid (Laid w4 w.heap.size 26 (ecells a) ∧ Laid w4 (w.heap.size + 1) 26 (ecells b) ∧ Below w.heap.size w w4) := ⟨H3.out.1.below hb, H3.out.2.1.below hb, below_call H3.out.2.2 H3.out.2.2.size hb⟩
    clear hb a0 a1 a2 a3 a4 a5 b0 b1 b2 b3 b4 b5 H3
    obtain ⟨a0, a1, a2, a3, a4, a5⟩ := H4.out.1.ent
    obtain ⟨b0, b1, b2, b3, b4, b5⟩ := H4.out.2.1.ent
    go_wp2_with fail
    refine (q3 _).mono ?_
    rintro e w5 ⟨rfl, hb⟩
    have H5 : Hid (Laid w5 w.heap.size 26 (ecells a) ∧ Laid w5 (w.heap.size + 1) 26 (ecells b) ∧ Below w.heap.size w w5) := ⟨H4.out.1.below hb, H4.out.2.1.below hb, below_call H4.out.2.2 H4.out.2.2.size hb⟩
    clear hb a0 a1 a2 a3 a4 a5 b0 b1 b2 b3 b4 b5 H4
    obtain ⟨a0, a1, a2, a3, a4, a5⟩ := H5.out.1.ent
    obtain ⟨b0, b1, b2, b3, b4, b5⟩ := H5.out.2.1.ent
    go_wp2
    go_ret
    exact ⟨rfl, H5.out.2.2⟩
  · rw [h1] at m1 q1 q2
    simp only [Bool.true_and] at q1 q2
    have hR' := fun w => hR w h1
    clear h1 hR
    cases h2 : mayB b
    · rw [h2] at m2 q1 q2
      simp only [Bool.false_and] at q1 q2
      clear h2 hR'
      go_wp2_with fail
      refine (m1 _).mono ?_
      rintro e w2 ⟨rfl, hb⟩
      have H2 : Hid (Laid w2 w.heap.size 26 (ecells a) ∧ Laid w2 (w.heap.size + 1) 26 (ecells b) ∧ Below w.heap.size w w2) := ⟨H1.out.1.below hb, H1.out.2.1.below hb, below_call H1.out.2.2 H1.out.2.2.size hb⟩
      clear hb a0 a1 a2 a3 a4 a5 b0 b1 b2 b3 b4 b5 H1
      obtain ⟨a0, a1, a2, a3, a4, a5⟩ := H2.out.1.ent
      obtain ⟨b0, b1, b2, b3, b4, b5⟩ := H2.out.2.1.ent
      go_wp2_with fail
      refine (m2 _).mono ?_
      rintro e w3 ⟨rfl, hb⟩
      have H3 : Hid (Laid w3 w.heap.size 26 (ecells a) ∧ Laid w3 (w.heap.size + 1) 26 (ecells b) ∧ Below w.heap.size w w3) := ⟨H2.out.1.below hb, H2.out.2.1.below hb, below_call H2.out.2.2 H2.out.2.2.size hb⟩
      clear hb a0 a1 a2 a3 a4 a5 b0 b1 b2 b3 b4 b5 H2
      obtain ⟨a0, a1, a2, a3, a4, a5⟩ := H3.out.1.ent
      obtain ⟨b0, b1, b2, b3, b4, b5⟩ := H3.out.2.1.ent
      go_wp2_with fail
      refine (q1 _).mono ?_
      rintro e w4 ⟨rfl, hb⟩
      have H4 : Hid (Laid w4 w.heap.size 26 (ecells a) ∧ Laid w4 (w.heap.size + 1) 26 (ecells b) ∧ Below w.heap.size w w4) := ⟨H3.out.1.below hb, H3.out.2.1.below hb, below_call H3.out.2.2 H3.out.2.2.size hb⟩
      clear hb a0 a1 a2 a3 a4 a5 b0 b1 b2 b3 b4 b5 H3
      obtain ⟨a0, a1, a2, a3, a4, a5⟩ := H4.out.1.ent
      obtain ⟨b0, b1, b2, b3, b4, b5⟩ := H4.out.2.1.ent
      go_wp2_with fail
      refine (q2 _).mono ?_
      rintro e w5 ⟨rfl, hb⟩
      have H5 : Hid (Laid w5 w.heap.size 26 (ecells a) ∧ Laid w5 (w.heap.size + 1) 26 (ecells b) ∧ Below w.heap.size w w5) := ⟨H4.out.1.below hb, H4.out.2.1.below hb, below_call H4.out.2.2 H4.out.2.2.size hb⟩
      clear hb a0 a1 a2 a3 a4 a5 b0 b1 b2 b3 b4 b5 H4
      obtain ⟨a0, a1, a2, a3, a4, a5⟩ := H5.out.1.ent
      obtain ⟨b0, b1, b2, b3, b4, b5⟩ := H5.out.2.1.ent
      go_wp2_with fail
      refine (q3 _).mono ?_
      rintro e w6 ⟨rfl, hb⟩
      have H6 : Hid (Laid w6 w.heap.size 26 (ecells a) ∧ Laid w6 (w.heap.size + 1) 26 (ecells b) ∧ Below w.heap.size w w6) := ⟨H5.out.1.below hb, H5.out.2.1.below hb, below_call H5.out.2.2 H5.out.2.2.size hb⟩
      clear hb a0 a1 a2 a3 a4 a5 b0 b1 b2 b3 b4 b5 H5
      obtain ⟨a0, a1, a2, a3, a4, a5⟩ := H6.out.1.ent
      obtain ⟨b0, b1, b2, b3, b4, b5⟩ := H6.out.2.1.ent
      go_wp2
      go_ret
      exact ⟨rfl, H6.out.2.2⟩
    · rw [h2] at m2 q1 q2
      simp only [Bool.true_and] at q1 q2
      have hR := fun w => hR' w h2
      clear h2 hR'
      generalize clashB a b = r at *
      go_wp2_with fail
      refine (m1 _).mono ?_
      rintro e w2 ⟨rfl, hb⟩
      have H2 : Hid (Laid w2 w.heap.size 26 (ecells a) ∧ Laid w2 (w.heap.size + 1) 26 (ecells b) ∧ Below w.heap.size w w2) := ⟨H1.out.1.below hb, H1.out.2.1.below hb, below_call H1.out.2.2 H1.out.2.2.size hb⟩
      clear hb a0 a1 a2 a3 a4 a5 b0 b1 b2 b3 b4 b5 H1
      obtain ⟨a0, a1, a2, a3, a4, a5⟩ := H2.out.1.ent
      obtain ⟨b0, b1, b2, b3, b4, b5⟩ := H2.out.2.1.ent
      go_wp2_with fail
      refine (m2 _).mono ?_
      rintro e w3 ⟨rfl, hb⟩
      have H3 : Hid (Laid w3 w.heap.size 26 (ecells a) ∧ Laid w3 (w.heap.size + 1) 26 (ecells b) ∧ Below w.heap.size w w3) := ⟨H2.out.1.below hb, H2.out.2.1.below hb, below_call H2.out.2.2 H2.out.2.2.size hb⟩
      clear hb a0 a1 a2 a3 a4 a5 b0 b1 b2 b3 b4 b5 H2
      obtain ⟨a0, a1, a2, a3, a4, a5⟩ := H3.out.1.ent
      obtain ⟨b0, b1, b2, b3, b4, b5⟩ := H3.out.2.1.ent
      go_wp2_with fail
      refine (hR _).mono ?_
      rintro e w4 ⟨rfl, hb⟩
      have H4 : Hid (Laid w4 w.heap.size 26 (ecells a) ∧ Laid w4 (w.heap.size + 1) 26 (ecells b) ∧ Below w.heap.size w w4) := ⟨H3.out.1.below hb, H3.out.2.1.below hb, below_call H3.out.2.2 H3.out.2.2.size hb⟩
      clear hb a0 a1 a2 a3 a4 a5 b0 b1 b2 b3 b4 b5 H3
      obtain ⟨a0, a1, a2, a3, a4, a5⟩ := H4.out.1.ent
      obtain ⟨b0, b1, b2, b3, b4, b5⟩ := H4.out.2.1.ent
      go_wp2_with fail
      refine (q1 _).mono ?_
      rintro e w5 ⟨rfl, hb⟩
      have H5 : Hid (Laid w5 w.heap.size 26 (ecells a) ∧ Laid w5 (w.heap.size + 1) 26 (ecells b) ∧ Below w.heap.size w w5) := ⟨H4.out.1.below hb, H4.out.2.1.below hb, below_call H4.out.2.2 H4.out.2.2.size hb⟩
      clear hb a0 a1 a2 a3 a4 a5 b0 b1 b2 b3 b4 b5 H4
      obtain ⟨a0, a1, a2, a3, a4, a5⟩ := H5.out.1.ent
      obtain ⟨b0, b1, b2, b3, b4, b5⟩ := H5.out.2.1.ent
      go_wp2_with fail
      refine (q2 _).mono ?_
      rintro e w6 ⟨rfl, hb⟩
      have H6 : Hid (Laid w6 w.heap.size 26 (ecells a) ∧ Laid w6 (w.heap.size + 1) 26 (ecells b) ∧ Below w.heap.size w w6) := ⟨H5.out.1.below hb, H5.out.2.1.below hb, below_call H5.out.2.2 H5.out.2.2.size hb⟩
      clear hb a0 a1 a2 a3 a4 a5 b0 b1 b2 b3 b4 b5 H5
      obtain ⟨a0, a1, a2, a3, a4, a5⟩ := H6.out.1.ent
      obtain ⟨b0, b1, b2, b3, b4, b5⟩ := H6.out.2.1.ent
      go_wp2_with fail
      refine (q3 _).mono ?_
      rintro e w7 ⟨rfl, hb⟩
      have H7 : Hid (Laid w7 w.heap.size 26 (ecells a) ∧ Laid w7 (w.heap.size + 1) 26 (ecells b) ∧ Below w.heap.size w w7) := ⟨H6.out.1.below hb, H6.out.2.1.below hb, below_call H6.out.2.2 H6.out.2.2.size hb⟩
      clear hb a0 a1 a2 a3 a4 a5 b0 b1 b2 b3 b4 b5 H6
      obtain ⟨a0, a1, a2, a3, a4, a5⟩ := H7.out.1.ent
      obtain ⟨b0, b1, b2, b3, b4, b5⟩ := H7.out.2.1.ent
      go_wp2
      go_ret
      exact ⟨ret_bool (by simp), H7.out.2.2⟩
end Go.Proofs.Ytpkagigjcnjlpaa
