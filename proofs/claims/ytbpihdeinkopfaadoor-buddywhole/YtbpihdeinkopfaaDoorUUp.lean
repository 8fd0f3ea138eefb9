/- The document's examples: up returns true. Condition: the table of math/bits lies as its text lays it. -/
import Derived.Test.YtbpihdeinkopfaaDoorUGive
import Derived.Test.YtbpihdeinkopfaaDoorUPick
namespace Go.Proofs.YtbpihdeinkopfaaDoor
open Go.RowKit

theorem blk12 : blkL 0 12 = [(0, 3), (8, 2)] := by decide
theorem lst12 : lst 1 [(0, 3), (8, 2)] 2 = some 1 := by decide
theorem lst12' : lst 1 [(0, 3), (10, 1)] 2 = some 1 := by decide
theorem cov_two (a b : Bk) (x : Nat) : cov [a, b] x ↔ (a.1 ≤ x ∧ x < a.1 + 2 ^ a.2) ∨ (b.1 ≤ x ∧ x < b.1 + 2 ^ b.2) := by simp [cov, inB, bend]
theorem cov_one (a : Bk) (x : Nat) : cov [a] x ↔ (a.1 ≤ x ∧ x < a.1 + 2 ^ a.2) := by simp [cov, inB, bend]
theorem good_b : Good [(0, 3), (10, 1)] := by
  refine ⟨fun b hb => ?_, by decide, fun b hb h5 hd => ?_⟩
  · simp at hb
    rcases hb with rfl | rfl <;> exact ⟨by decide, by decide⟩
  · simp at hb
    rcases hb with rfl | rfl
    · exact ⟨9, by decide, by decide, by rw [cov_two]; decide⟩
    · exact absurd hd (by decide)
theorem good_c : Good [(0, 3)] := by
  refine ⟨fun b hb => ?_, by decide, fun b hb h5 hd => ?_⟩
  · simp at hb
    subst hb
    exact ⟨by decide, by decide⟩
  · simp at hb
    subst hb
    exact ⟨9, by decide, by decide, by rw [cov_one]; decide⟩

set_option maxRecDepth 100000 in
set_option maxHeartbeats 4000000 in
theorem up_any (w : World) (hT : Tab w) : Calls Tryd.prog 8 #[] w fun e w' => e = .returned (.bool true) ∧ Below w.heap.size w w' := by
  have hN := new_yes 12 w hT (by decide) (by decide)
  rw [blk12] at hN
  have ok0 := new_okl (n := 12) (by decide)
  rw [blk12] at ok0
  have e1 : ∀ w, (binOp .eql 48 (.agg #[.int .i64 0, .int .i64 3]) (.agg #[.int .i64 0, .int .i64 3])).run Tryd.prog w = .ok (.bool true) w := fun w => by simpa [bval] using eql_run (0, 3) (0, 3) w
  have e2 : ∀ w, (binOp .eql 48 (.agg #[.int .i64 8, .int .i64 2]) (.agg #[.int .i64 8, .int .i64 2])).run Tryd.prog w = .ok (.bool true) w := fun w => by simpa [bval] using eql_run (8, 2) (8, 2) w
  go_enter Tryd.func8, Tryd.ntmps8
  go_wp2_with fail
  refine hN.mono ?_
  rintro e w1 ⟨p, rfl, ⟨v1, S1⟩, hb1⟩
  have T1 := hT.below hb1 (Nat.le_refl _)
  have hF := free_any S1 ok0
  clear hN
  go_wp2_with fail
  refine hF.mono ?_
  rintro e w2 ⟨vl, rfl, R2, hb2⟩
  have S2 := S1.below hb2
  have T2 := T1.below hb2 (Nat.le_refl _)
  have hK := take_any S2 ok0 T2 1 (by decide)
  unfold TakeP at hK
  rw [show ([(0, 3), (8, 2)] : List Bk).length = 2 from rfl, lst12] at hK
  obtain ⟨al, cl, rfl⟩ := R2.form
  clear hF
  go_wp2_with fail
  refine hK.mono ?_
  rintro e w3 ⟨rfl, L3, ⟨v3, S3, K3⟩, ok3, cv3⟩
  obtain rfl : L3 = [(0, 3), (10, 1)] := ok3.good.unique good_b fun x => by
    rw [cv3 x, cov_two, cov_two]
    simp [inB, bend]
    omega
  have T3 := T2.keeps K3 (fun e => by have := World.block_lt_of_cell? w _ (hT 0 (by decide)); omega)
  have hK2 := take_any S3 ok3 T3 1 (by decide)
  unfold TakeP at hK2
  rw [show ([(0, 3), (10, 1)] : List Bk).length = 2 from rfl, lst12'] at hK2
  have R3 := K3.row R2 (fun g hg e => by have := R2.lt g hg; omega)
  clear hK cv3
  go_wp2_with fail
  refine hK2.mono ?_
  rintro e w4 ⟨rfl, L4, ⟨v4, S4, K4⟩, ok4, cv4⟩
  obtain rfl : L4 = [(0, 3)] := ok4.good.unique good_c fun x => by
    rw [cv4 x, cov_two, cov_one]
    simp [inB, bend]
    omega
  have R4 := K4.row R3 (fun g hg e => by
    have := R2.lt g hg
    rcases e with e | e <;> omega)
  have hF2 := free_any S4 ok4
  clear hK2 cv4
  go_wp2_with fail
  refine hF2.mono ?_
  rintro e w5 ⟨vk, rfl, R5, hb5⟩
  have R6 := R4.below hb5
  obtain ⟨ak, ck, rfl⟩ := R5.form
  obtain ⟨g, rfl, _, _, _, _, _, at0⟩ := R6.at (show 0 < 2 by decide)
  obtain ⟨g', e', _, _, _, _, _, at1⟩ := R6.at (show 1 < 2 by decide)
  cases e'
  obtain ⟨gk, rfl, _, _, _, _, _, at2⟩ := R5.at (show 0 < 1 by decide)
  have c0 := rB.at at0
  have c1 := rB.at at1
  have c2 := rB.at at2
  simp [show rB.n = 2 from rfl] at c0 c1 c2
  obtain ⟨c00, c01⟩ := c0
  obtain ⟨c10, c11⟩ := c1
  obtain ⟨c20, c21⟩ := c2
  have hB : Below w.heap.size w w5 := by
    have b2 := below_call' hb1 hb2
    have b3 : Below w.heap.size w w3 := b2.trans (K3.below b2.size fun c _ h => h.1)
    have b4 : Below w.heap.size w w4 := b3.trans (K4.below b3.size fun c _ h => h.elim (fun e => e.1) fun e => Nat.le_trans b2.size e.1)
    exact below_call' b4 hb5
  have HB : Hid (Below w.heap.size w w5) := hB
  clear hB S1 S2 S3 S4 R2 R3 R4 R5 R6 T1 T2 T3 K3 K4 hb1 hb2 hb5 ok0 ok3 ok4 at0 at1 at2 hF2
  simp only [List.length_cons, List.length_nil]
  go_wp2
  go_ret
  exact ⟨rfl, HB.out⟩
end Go.Proofs.YtbpihdeinkopfaaDoor
