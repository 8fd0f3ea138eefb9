/- What the small functions of package tlb answer; '==' between two entries. -/
import Derived.Test.YtpkagigjcnjlpaaEMath
import Derived.Test.YtpkagigjcnjlpaaWAlign
import Derived.Laws.StructEq
namespace Go.Proofs.Ytpkagigjcnjlpaa
open Go.RowKit

/-- An entry's cells, and it as a value. -/
def ecells (x : Ent) : Array Value := #[.int .i64 x.asid, .int .i64 x.first, .int .i64 x.order, .int .i64 x.base, .bool x.writ, .bool x.exe]
def ev (x : Ent) : Value := .agg #[.int .i64 x.asid, .int .i64 x.first, .int .i64 x.order, .int .i64 x.base, .bool x.writ, .bool x.exe]

theorem eqE_run (a b : Ent) (w : World) : (Op.equalIn 10000 26 (ev a) (ev b)).run Try.prog w = .ok (eqE a b) w := by
  have hi : ∀ (n : Nat) (x y : Int) (w : World), (Op.equalIn (n + 1) 3 (.int .i64 x) (.int .i64 y)).run Try.prog w = .ok (x == y) w := fun n x y w => run_equalIn_int w n 3 .i64 .i64 x y Try.underlying3
  have hb : ∀ (n : Nat) (x y : Bool) (w : World), (Op.equalIn (n + 1) 4 (.bool x) (.bool y)).run Try.prog w = .ok (x == y) w := fun n x y w => run_equalIn_bool' w n 4 x y Try.underlying4
  unfold ev
  rw [run_equalIn_agg w 9999 _ _ _ (by kernel_rfl) (by kernel_rfl)]
  obtain ⟨a1, a2, a3, a4, a5, a6⟩ := a
  obtain ⟨b1, b2, b3, b4, b5, b6⟩ := b
  unfold eqE
  simp only
  simp [go_sem, Program.fieldsOf, Try.underlying26, Op.eqFields, hi, hb]
  refine dite (a1 = b1) (fun h1 => ?_) (fun h1 => by simp [h1])
  refine dite (a2 = b2) (fun h2 => ?_) (fun h2 => by simp [h1, h2])
  refine dite (a3 = b3) (fun h3 => ?_) (fun h3 => by simp [h1, h2, h3])
  refine dite (a4 = b4) (fun h4 => ?_) (fun h4 => by simp [h1, h2, h3, h4])
  refine dite (a5 = b5) (fun h5 => ?_) (fun h5 => by simp [h1, h2, h3, h4, h5])
  by_cases h6 : a6 = b6 <;> simp [h1, h2, h3, h4, h5, h6]
theorem eql_ent (a b : Ent) (w : World) : (binOp .eql 26 (ev a) (ev b)).run Try.prog w = .ok (.bool (eqE a b)) w := by
  have := eqE_run a b w
  unfold ev at *
  rw [run_eql_struct, this]
  rfl
theorem neq_ent (a b : Ent) (w : World) : (binOp .neq 26 (ev a) (ev b)).run Try.prog w = .ok (.bool (!eqE a b)) w := by
  have := eqE_run a b w
  unfold ev at *
  rw [run_neq_struct, this]
  rfl

set_option maxHeartbeats 400000 in
theorem down_no (n o : Int) (w : World) (h : alignB n o = false) :
    Calls Try.prog 46 #[.int .i64 n, .int .i64 o] w fun e w' => e = .returned (.tuple #[.int .i64 0, .iface 31 (.int .i64 1)]) ∧ w' = w := by
  have hA := mayAlign_any n o
  rw [h] at hA
  go_enter Try.func46, Try.ntmps46
  go_wp2_with (go_at_call 48; refine (hA _).mono ?_; rintro e w1 ⟨rfl, hw⟩; obtain rfl := hw.symm; clear hw)
  go_ret2
  exact ⟨rfl, rfl⟩

def ordB (o : Int) : Bool := decide (o = 0 ∨ o = 2 ∨ o = 3)
set_option maxHeartbeats 400000 in
theorem mayOrder_any (o : Int) (w : World) :
    Calls Try.prog 41 #[.int .i64 o] w fun e w' => e = .returned (.bool (ordB o)) ∧ w' = w := by
  go_enter Try.func41, Try.ntmps41
  go_wp2
  all_goals go_ret
  all_goals refine ⟨ret_bool ?_, rfl⟩
  all_goals (rw [Bool.eq_iff_iff]; simp [ordB]; try omega)

def alB (n o : Int) : Bool := decide (0 ≤ n ∧ n % pw o = 0)
set_option maxHeartbeats 1000000 in
theorem isAligned_any (n o : Int) (w : World) (hn : n < 4096) (ho : ordB o = true) :
    Calls Try.prog 42 #[.int .i64 n, .int .i64 o] w fun e w' => e = .returned (.bool (alB n o)) ∧ w' = w := by
  have ho' : o = 0 ∨ o = 2 ∨ o = 3 := by simpa [ordB] using ho
  clear ho
  by_cases h : 0 ≤ n
  · have hd := down_yes n o w (by simp [alignB]; omega)
    have key : ∀ q : Int, (o = 0 ∧ q = 1) ∨ (o = 2 ∧ q = 4) ∨ (o = 3 ∧ q = 8) → (2 : Int) ^ o.toNat = q ∧ pw o = q := by
      rintro q (⟨rfl, rfl⟩ | ⟨rfl, rfl⟩ | ⟨rfl, rfl⟩) <;> exact ⟨by decide, by decide⟩
    obtain ⟨q, hq, hq0⟩ : ∃ q : Int, ((2 : Int) ^ o.toNat = q ∧ pw o = q) ∧ (q = 1 ∨ q = 4 ∨ q = 8) := by
      rcases ho' with e | e | e
      · exact ⟨1, key 1 (by omega), by omega⟩
      · exact ⟨4, key 4 (by omega), by omega⟩
      · exact ⟨8, key 8 (by omega), by omega⟩
    rw [hq.1] at hd
    have hr : (n / q * q == n) = alB n o := by
      rw [Bool.eq_iff_iff]
      simp only [alB, hq.2, decide_eq_true_eq, beq_iff_eq]
      rcases hq0 with rfl | rfl | rfl <;> omega
    clear key hq hq0 ho'
    generalize n / q * q = m at hd hr
    generalize alB n o = r at hr ⊢
    go_enter Try.func42, Try.ntmps42
    go_wp2_with (go_at_call 46; refine hd.mono ?_; rintro e w1 ⟨rfl, hw⟩; obtain rfl := hw.symm; clear hw)
    all_goals go_ret
    all_goals exact ⟨rfl, rfl⟩
  · have hd := down_no n o w (by simp [alignB]; omega)
    have hr : alB n o = false := by simp [alB]; omega
    rw [hr]
    clear hr ho'
    go_enter Try.func42, Try.ntmps42
    go_wp2_with (go_at_call 46; refine hd.mono ?_; rintro e w1 ⟨rfl, hw⟩; obtain rfl := hw.symm; clear hw)
    all_goals go_ret
    all_goals exact ⟨rfl, rfl⟩
end Go.Proofs.Ytpkagigjcnjlpaa
