/- '==' between two Found; the statements' common head of layer 4. -/
import Derived.Test.YteoblaopbhdneaaKRefW
import Derived.Laws.StructEq
namespace Go.Proofs.Yteoblaopbhdneaa
open Go.RowKit

/-- Are two the same? -/
def eqF (a b : Fnd) : Bool := a.kind == b.kind && (a.level == b.level && (a.table == b.table && (a.place == b.place && (a.frame == b.frame && (a.order == b.order && (a.first == b.first && (a.base == b.base && (a.wr == b.wr && (a.ex == b.ex && a.sn == b.sn)))))))))
theorem eqF_self (a : Fnd) : eqF a a = true := by simp [eqF]
theorem eqF_run (a b : Fnd) (w : World) : (Op.equalIn 10000 37 (fv a) (fv b)).run Try.prog w = .ok (eqF a b) w := by
  have hi : ∀ (n : Nat) (x y : Int) (w : World), (Op.equalIn (n + 1) 3 (.int .i64 x) (.int .i64 y)).run Try.prog w = .ok (x == y) w := fun n x y w => run_equalIn_int w n 3 .i64 .i64 x y Try.underlying3
  have hb : ∀ (n : Nat) (x y : Bool) (w : World), (Op.equalIn (n + 1) 4 (.bool x) (.bool y)).run Try.prog w = .ok (x == y) w := fun n x y w => run_equalIn_bool' w n 4 x y Try.underlying4
  unfold fv
  rw [run_equalIn_agg w 9999 _ _ _ (by kernel_rfl) (by kernel_rfl)]
  obtain ⟨a1, a2, a3, a4, a5, a6, a7, a8, a9, a10, a11⟩ := a
  obtain ⟨b1, b2, b3, b4, b5, b6, b7, b8, b9, b10, b11⟩ := b
  unfold eqF
  simp only
  simp [go_sem, Program.fieldsOf, Try.underlying37, Op.eqFields, hi, hb]
  refine dite (a1 = b1) (fun h1 => ?_) (fun h1 => by simp [h1])
  refine dite (a2 = b2) (fun h2 => ?_) (fun h2 => by simp [h1, h2])
  refine dite (a3 = b3) (fun h3 => ?_) (fun h3 => by simp [h1, h2, h3])
  refine dite (a4 = b4) (fun h4 => ?_) (fun h4 => by simp [h1, h2, h3, h4])
  refine dite (a5 = b5) (fun h5 => ?_) (fun h5 => by simp [h1, h2, h3, h4, h5])
  refine dite (a6 = b6) (fun h6 => ?_) (fun h6 => by simp [h1, h2, h3, h4, h5, h6])
  refine dite (a7 = b7) (fun h7 => ?_) (fun h7 => by simp [h1, h2, h3, h4, h5, h6, h7])
  refine dite (a8 = b8) (fun h8 => ?_) (fun h8 => by simp [h1, h2, h3, h4, h5, h6, h7, h8])
  refine dite (a9 = b9) (fun h9 => ?_) (fun h9 => by simp [h1, h2, h3, h4, h5, h6, h7, h8, h9])
  refine dite (a10 = b10) (fun h10 => ?_) (fun h10 => by simp [h1, h2, h3, h4, h5, h6, h7, h8, h9, h10])
  by_cases h11 : a11 = b11 <;> simp [h1, h2, h3, h4, h5, h6, h7, h8, h9, h10, h11]

theorem eql_fnd (a b : Fnd) (w : World) : (binOp .eql 37 (fv a) (fv b)).run Try.prog w = .ok (.bool (eqF a b)) w := by
  have := eqF_run a b w
  unfold fv at *
  rw [run_eql_struct, this]
  rfl
theorem neq_fnd (a b : Fnd) (w : World) : (binOp .neq 37 (fv a) (fv b)).run Try.prog w = .ok (.bool (!eqF a b)) w := by
  have := eqF_run a b w
  unfold fv at *
  rw [run_neq_struct, this]
  rfl

theorem words_zero (n : Nat) : Words n (fun _ => 0) := fun _ _ => by show 0 < 18446744073709551616; decide
theorem walk_zero (n root page : Nat) (h : root < n) : walkF n (fun _ => 0) root page = some ⟨0, 0, root, dig 0 page, 0, 0, 0, 0, false, false, false⟩ := by
  unfold walkF
  rw [walkN_end h (l := 0) (by omega) (by rw [says_word0]; decide), says_word0]
  rfl

set_option maxHeartbeats 1000000 in
theorem up_any (w : World) :
    Calls Try.prog 9 #[] w fun e w' => e = .returned (.bool true) ∧ Below w.heap.size w w' := by
  have hq := eql_fnd nilF nilF
  rw [eqF_self] at hq
  unfold fv nilF at hq
  simp only at hq
  have p1 := fun w => place_yes 3 4095 w (by omega) (by omega)
  rw [show dig 3 4095 = 7 from by decide] at p1
  have p2 := fun w => place_yes 0 4095 w (by omega) (by omega)
  rw [show dig 0 4095 = 7 from by decide] at p2
  go_enter Try.func9, Try.ntmps9
  go_wp2_with fail
  refine (new_yes 1 _ (by omega) (by omega)).mono ?_
  rintro e w1 ⟨b, s, rfl, M1, L1⟩
  go_wp2_with fail
  refine (p1 _).mono ?_
  rintro e w2 ⟨rfl, d1, hw⟩
  have M2 : Mem w.heap.size w2 b s 1 (fun _ => 0) := by rw [hw]; exact M1.drewN d1
  have L2 : Below w.heap.size w w2 := by rw [hw]; exact below_drewN L1 d1
  clear hw M1 L1 p1
  go_wp2_with fail
  refine (p2 _).mono ?_
  rintro e w3 ⟨rfl, d2, hw⟩
  have M3 : Mem w.heap.size w3 b s 1 (fun _ => 0) := by rw [hw]; exact M2.drewN d2
  have L3 : Below w.heap.size w w3 := by rw [hw]; exact below_drewN L2 d2
  clear hw M2 L2 p2
  have hW := walk_yes M3 (words_zero 1) 0 5 (by omega) (by omega)
  rw [walk_zero 1 0 5 (by omega), show dig 0 5 = 0 from by decide] at hW
  unfold ansF fv at hW
  simp only at hW
  go_wp2_with fail
  refine hW.mono ?_
  rintro e w4 ⟨rfl, hb⟩
  have L4 := below_call' L3 hb
  clear hb hW M3 L3
  go_wp2
  go_ret
  exact ⟨rfl, L4.alloc L4.size _⟩
end Go.Proofs.Yteoblaopbhdneaa
