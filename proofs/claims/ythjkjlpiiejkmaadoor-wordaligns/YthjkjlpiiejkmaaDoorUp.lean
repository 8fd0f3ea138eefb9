/- The document's examples hold: the statements' common head answers true; condition: the table lies as its text lays it. -/
import Derived.Test.YthjkjlpiiejkmaaDoorAligns
import Derived.Lib.IfaceEq
namespace Go.Proofs.YthjkjlpiiejkmaaDoor
open Go.RowKit

theorem eqArr2_at (n : Nat) (a b c d : Int) (w : World) : (Op.equalIn (n + 2) 44 (.agg #[.int .i64 a, .int .i64 b]) (.agg #[.int .i64 c, .int .i64 d])).run Tryd.prog w = .ok (a == c && b == d) w := by
  have p1 : ∀ (x y : Int) (w : World), (part 3 #[.int .i64 x, .int .i64 y] 0).run Tryd.prog w = .ok (.int .i64 x) w := fun _ _ _ => by kernel_rfl
  have p2 : ∀ (x y : Int) (w : World), (part 3 #[.int .i64 x, .int .i64 y] 1).run Tryd.prog w = .ok (.int .i64 y) w := fun _ _ _ => by kernel_rfl
  have hs : (sizeOf 3).run Tryd.prog w = .ok 1 w := by kernel_rfl
  have e1 : ∀ (x y : Int), (Op.equalIn (n + 1) 3 (.int .i64 x) (.int .i64 y)).run Tryd.prog w = .ok (x == y) w := fun x y => run_equalIn_int w n 3 .i64 .i64 x y Tryd.underlying3
  rw [Op.equalIn]
  simp only [Sem.run_bind, run_underlying Tryd.underlying44, Result.andThen_ok, hs]
  simp only [Std.Legacy.Range.forIn_eq_forIn_range', Std.Legacy.Range.size, List.range', List.forIn_cons, List.forIn_nil]
  simp only [Sem.run_bind, Nat.mul_one, Nat.zero_add, p1, e1, Result.andThen_ok]
  cases (a == c)
  · simp
  · simp only [Bool.not_true, Bool.false_eq_true, if_false, Sem.run_pure, Result.andThen_ok, Sem.run_bind, p2, e1]
    cases (b == d) <;> simp

theorem eqArr2 (a b c d : Int) (w : World) : (Op.equalIn 10000 44 (.agg #[.int .i64 a, .int .i64 b]) (.agg #[.int .i64 c, .int .i64 d])).run Tryd.prog w = .ok (a == c && b == d) w := eqArr2_at 9998 a b c d w

theorem cut39 : cutL 3 9 = [(3, 0), (4, 2), (8, 0)] := by decide +kernel

/-- What is owned, opened: the address and the cells. -/
theorem owned_open {w : World} {B : Nat} {v : Value} {l : List (Nat × Nat)} (hne : l ≠ []) (h : w.ownsRow B 44 2 v l.length (runCells l)) :
    ∃ g cap, v = .slice (some ⟨g, 0, none⟩) l.length cap ∧ B ≤ g ∧ (∀ i, i < l.length → w.cell? ⟨g, i * 2, none⟩ = some (.int .i64 (l.getD i (0, 0)).1)) ∧ (∀ i, i < l.length → w.cell? ⟨g, i * 2 + 1, none⟩ = some (.int .i64 (l.getD i (0, 0)).2)) := by
  have hc := @World.ownsRow.cells _ _ _ _ _ _ _ h
  rcases h.2 with ⟨rfl, h0⟩ | ⟨g, cap, cur, rfl, hb, hg, h1, h2, h3, h4⟩
  · exact absurd (List.eq_nil_of_length_eq_zero h0) hne
  · refine ⟨g, cap, rfl, hb, fun i hi => ?_, fun i hi => ?_⟩
    · have := hc (g := g) rfl (i * 2) _ (runCells_first l i hi)
      rwa [Addr.add_lit, Nat.zero_add] at this
    · have := hc (g := g) rfl (i * 2 + 1) _ (runCells_second l i hi)
      rwa [Addr.add_lit, Nat.zero_add] at this

theorem cut39_any (w : World) (hT : Tab w) :
    Calls Tryd.prog 22 #[.int .i64 3, .int .i64 9] w fun e w' => ∃ g cap, e = .returned (.tuple #[.slice (some ⟨g, 0, none⟩) 3 cap, .nilIface]) ∧
      w'.cell? ⟨g, 0, none⟩ = some (.int .i64 3) ∧ w'.cell? ⟨g, 1, none⟩ = some (.int .i64 0) ∧ w'.cell? ⟨g, 2, none⟩ = some (.int .i64 4) ∧ w'.cell? ⟨g, 3, none⟩ = some (.int .i64 2) ∧
      w'.cell? ⟨g, 4, none⟩ = some (.int .i64 8) ∧ w'.cell? ⟨g, 5, none⟩ = some (.int .i64 0) ∧ Below w.heap.size w w' := by
  refine (cut_yes 3 9 w hT (by decide) (by decide)).mono ?_
  rintro e w' ⟨v, rfl, hown, hbel⟩
  rw [cut39] at hown
  obtain ⟨g, cap, rfl, _, h1, h2⟩ := owned_open (by simp) hown
  exact ⟨g, cap, rfl, h1 0 (by decide), h2 0 (by decide), h1 1 (by decide), h2 1 (by decide), h1 2 (by decide), h2 2 (by decide), hbel⟩

theorem Tab.drewN {w : World} (h : Tab w) (d : Nat) : Tab (w.drewN d) := h.below (below_drewN (Below.refl w.heap.size w) d) (Nat.le_refl _)

set_option maxHeartbeats 1000000 in
theorem up_any (w : World) (hT : Tab w) :
    Calls Tryd.prog 11 #[] w fun e w' => e = .returned (.bool true) ∧ Below w.heap.size w w' := by
  have hF : ∀ w : World, Calls Tryd.prog 12 #[.int .u64 240, .int .i64 4, .int .i64 4] w fun e w' => e = .returned (.tuple #[.int .u64 15, .nilIface]) ∧ ∃ d, w' = w.drewN d := fun w =>
    field_yes 240 4 4 w (by decide) (by decide)
  have hP : ∀ w : World, Calls Tryd.prog 13 #[.int .u64 0, .int .i64 60, .int .i64 4, .int .u64 15] w fun e w' => e = .returned (.tuple #[.int .u64 17293822569102704640, .nilIface]) ∧ ∃ d, w' = w.drewN d := fun w =>
    put_yes 0 15 60 4 w (by decide) (by decide) (by decide)
  go_enter Tryd.func11, Tryd.ntmps11
  go_wp2_with fail
  refine (hF _).mono ?_
  rintro e w1 ⟨rfl, d1, rfl⟩
  go_wp2_with fail
  refine (hP _).mono ?_
  rintro e w1 ⟨rfl, d2, rfl⟩
  go_wp2_with fail
  refine (cut39_any _ (hT.drewN (d1 + d2))).mono ?_
  rintro e w1 ⟨g, cap, rfl, c0, c1, c2, c3, c4, c5, hbel⟩
  have hq := fun a b c d => eqArr2 a b c d w1
  go_wp2
  go_ret
  exact ⟨rfl, (below_drewN (Below.refl _ _) (d1 + d2)).trans hbel⟩
end Go.Proofs.YthjkjlpiiejkmaaDoor
