/- The document's examples. -/
import Derived.Test.YtaeodbeodacmaaaATurn
namespace Go.Proofs.Ytaeodbeodacmaaa
open Go.RowKit

theorem LayW.yes {w w' : World} {M : List AAr} {e : Ending} (h : LayW w M e w') (c : M.length ≤ 64) : ∃ v, e = .returned (.tuple #[v, .nilIface]) ∧ Row rAAr w.heap.size w' v M ∧ Below w.heap.size w w' := by
  have h1 := h.1
  rw [if_pos c] at h1
  obtain ⟨v, e1, r⟩ := h1
  exact ⟨v, e1, r, h.2⟩
theorem may_one (a b : Int) (x y z : Bool) (h : SpanA a b) : MayA [⟨a, b, x, y, z⟩] := by
  obtain ⟨h1, h2, h3⟩ := h
  exact ⟨by simp, h1, h2, h3, (fun _ k => by cases k), trivial⟩
theorem up_lay (w : World) :
    Calls Try.prog 20 #[.slice (some ⟨w.heap.size, 0, none⟩) 1 1, av ⟨4, 6, false, false, false⟩] (w.alloc (.cells (AAr.arr ⟨0, 4, false, false, false⟩) 32)) fun e w' => ∃ g c, e = .returned (.tuple #[.slice (some ⟨g, 0, none⟩) 1 c, .nilIface]) ∧ Hid (Row rAAr w.heap.size w' (.slice (some ⟨g, 0, none⟩) 1 c) [⟨0, 6, false, false, false⟩]) ∧ Hid (Below w.heap.size w w') := by
  have hb := new_below w (.cells (AAr.arr ⟨0, 4, false, false, false⟩) 32)
  refine (lay_any (c := 1) (Sn.newd w ⟨0, 4, false, false, false⟩) (by unfold maxLen; simp) ⟨4, 6, false, false, false⟩).mono fun e w' h => ?_
  rcases h with ⟨_, h⟩ | ⟨⟨h, _⟩, _⟩
  · obtain ⟨v, e1, r, hb2⟩ := h.yes (by decide)
    have r' : Row rAAr (w.alloc (.cells (AAr.arr ⟨0, 4, false, false, false⟩) 32)).heap.size w' v [⟨0, 6, false, false, false⟩] := r
    rcases r'.cases with ⟨-, e2⟩ | ⟨g, c, cur, e2, -⟩
    · cases e2
    · subst e2
      exact ⟨g, c, e1, r'.lower hb.size, below_call' hb hb2⟩
  · exact absurd ⟨may_one 0 4 _ _ _ ⟨by omega, by omega, by omega⟩, (⟨by omega, by omega, by omega⟩ : SpanA 4 6)⟩ h
theorem up_cut (w : World) :
    Calls Try.prog 21 #[.slice (some ⟨w.heap.size, 0, none⟩) 1 1, .int .i64 2, .int .i64 4] (w.alloc (.cells (AAr.arr ⟨0, 6, false, false, false⟩) 32)) fun e w' => ∃ g c, e = .returned (.tuple #[.slice (some ⟨g, 0, none⟩) 2 c, .nilIface]) ∧ Hid (Row rAAr w.heap.size w' (.slice (some ⟨g, 0, none⟩) 2 c) [⟨0, 2, false, false, false⟩, ⟨4, 6, false, false, false⟩]) ∧ Hid (Below w.heap.size w w') := by
  have hb := new_below w (.cells (AAr.arr ⟨0, 6, false, false, false⟩) 32)
  refine (cut_any (c := 1) (Sn.newd w ⟨0, 6, false, false, false⟩) (by unfold maxLen; simp) 2 4).mono fun e w' h => ?_
  rcases h with ⟨_, h⟩ | ⟨⟨h, _⟩, _⟩
  · obtain ⟨v, e1, r, hb2⟩ := h.yes (by decide)
    have r' : Row rAAr (w.alloc (.cells (AAr.arr ⟨0, 6, false, false, false⟩) 32)).heap.size w' v [⟨0, 2, false, false, false⟩, ⟨4, 6, false, false, false⟩] := r
    rcases r'.cases with ⟨-, e2⟩ | ⟨g, c, cur, e2, -⟩
    · cases e2
    · subst e2
      exact ⟨g, c, e1, r'.lower hb.size, below_call' hb hb2⟩
  · exact absurd ⟨may_one 0 6 _ _ _ ⟨by omega, by omega, by omega⟩, (⟨by omega, by omega, by omega⟩ : SpanA 2 4)⟩ h
theorem up_room (w : World) :
    Calls Try.prog 16 #[.slice (some ⟨w.heap.size, 0, none⟩) 1 1, .int .i64 3] (w.alloc (.cells (AAr.arr ⟨0, 6, false, false, false⟩) 32)) fun e w' => e = .returned (.tuple #[.int .i64 6, .nilIface]) ∧ Below w.heap.size w w' := by
  have hb := new_below w (.cells (AAr.arr ⟨0, 6, false, false, false⟩) 32)
  refine (room_any (c := 1) (Sn.newd w ⟨0, 6, false, false, false⟩) (by unfold maxLen; simp) 3).mono fun e w' h => ?_
  obtain ⟨h, hb2⟩ := h
  rcases h with ⟨_, h⟩ | ⟨h, _⟩
  · exact ⟨h, below_call' hb hb2⟩
  · exact absurd ⟨may_one 0 6 _ _ _ ⟨by omega, by omega, by omega⟩, by omega⟩ h

set_option maxRecDepth 100000 in
set_option maxHeartbeats 8000000 in
theorem up_any (w : World) : Calls Try.prog 12 #[] w fun e w' => e = .returned (.bool true) ∧ Below w.heap.size w w' := by
  have hL := fun w => up_lay w
  have hC := fun w => up_cut w
  have hR := fun w => up_room w
  have e1 := fun w => eql_ar ⟨0, 6, false, false, false⟩ ⟨0, 6, false, false, false⟩ w
  have e2 := fun w => eql_ar ⟨4, 6, false, false, false⟩ ⟨4, 6, false, false, false⟩ w
  rw [eqA_self] at e1 e2
  unfold av AAr.arr at *
  simp only at *
  go_enter Try.func12, Try.ntmps12
  go_wp2_with fail
  refine (hL _).mono ?_
  rintro e w1 ⟨g1, c1, rfl, R1, B1⟩
  clear hL
  go_wp2_with fail
  refine (hC _).mono ?_
  rintro e w2 ⟨g2, c2, rfl, R2, B2⟩
  clear hC
  go_wp2_with fail
  refine (hR _).mono ?_
  rintro e w3 ⟨rfl, b3⟩
  have HB : Hid (Below w.heap.size w w3) := below_call' (below_call' B1.out B2.out) b3
  obtain ⟨x1, q1, -, -, -, -, -, t1⟩ := ((R1.out.below B2.out).below b3).at (show 0 < _ by decide)
  obtain ⟨x2, q2, -, -, -, -, -, t2⟩ := (R2.out.below b3).at (show 1 < _ by decide)
  cases q1
  cases q2
  obtain ⟨p0, p1, p2, p3, p4⟩ := AAr.at t1
  obtain ⟨r0, r1, r2, r3, r4⟩ := AAr.at t2
  simp only [show rAAr.n = 5 from rfl, Nat.zero_mul, Nat.one_mul, Nat.zero_add, List.getD_cons_zero, List.getD_cons_succ] at p0 p1 p2 p3 p4 r0 r1 r2 r3 r4
  clear hR b3 t1 t2 R1 R2 B1 B2
  go_wp2
  go_ret
  exact ⟨rfl, HB.out⟩
end Go.Proofs.Ytaeodbeodacmaaa
