/- What the document's own Walk answers, and the number of an error. -/
import Derived.Test.YteoblaopbhdneaaKRef
namespace Go.Proofs.Yteoblaopbhdneaa
open Go.RowKit

set_option maxRecDepth 100000 in
set_option maxHeartbeats 1000000 in
theorem refWalk_any {B q n : Nat} {R f : Nat → Nat} {w : World} (F : Ref B w q n R f) (cap : Nat) (hf : Words n f) (root page : Nat) (hp : page < 4096) :
    Calls Try.prog 14 #[.slice (some ⟨q, 0, none⟩) n cap, .int .i64 root, .int .i64 page] w fun e w' => e = .returned (ansR (walkF n f root page)) ∧ Below w.heap.size w w' := by
  have F1 : Ref B (w.alloc (.cells zeroF 37)) q n R f := F.below ((Below.refl _ _).alloc (Nat.le_refl _) _)
  have hA := refAt_any cap hf page hp 4 0 root _ (by omega) (by omega) F1
  obtain ⟨r, hr⟩ : ∃ r, r = walkF n f root page := ⟨_, rfl⟩
  rw [show walkN n f page 4 root = r from hr.symm] at hA
  rw [← hr]
  obtain ⟨y, bad, hy⟩ : ∃ (y : Fnd) (bad : Int), ansR r = .tuple #[fv y, .int .i64 bad] := by cases r <;> exact ⟨_, _, rfl⟩
  rw [hy] at hA ⊢
  clear hy hr F F1
  unfold zeroF at hA
  go_enter Try.func14, Try.ntmps14
  go_wp2_with fail
  refine hA.mono ?_
  rintro e w1 ⟨rfl, hb⟩
  have Z3 : Laid w1 w.heap.size 37 zeroF := (Laid.new w _ _).below hb
  have L3 : Below w.heap.size w w1 := below_call' ((Below.refl _ _).alloc (Nat.le_refl _) _) hb
  clear hb hA
  obtain ⟨c0, c1, c2, c3, c4, c5, c6, c7, c8, c9, c10, hz⟩ := Z3.zeros
  have hlt4 := Z3.lt
  unfold fv
  go_wp2
  refine bodyPost_ret (v := .tuple #[fv y, .int .i64 bad]) ?_ rfl ⟨rfl, ?_⟩
  · simp [results, Try.results14, go_sem, fv, c0, c1, c2, c3, c4, c5, c6, c7, c8, c9, c10]
  · repeat' (first | (with_reducible exact L3) | (with_reducible refine Below.setCell ?_ ?_ _) | (with_reducible exact Nat.le_refl _))

/-- '==' between two errors that are Codes. -/
theorem eq_code (a b : Int) (w : World) : (binOp .eql 24 (.iface 27 (.int .i64 a)) (.iface 27 (.int .i64 b))).run Try.prog w = .ok (.bool (a == b)) w :=
  Lib.run_eql_iface_int (P := Try.prog) w (t := 24) (tx := 27) (k := .i64) a b Try.underlying24 (by kernel_rfl) Try.underlying27

set_option maxHeartbeats 400000 in
theorem code_nil (w : World) : Calls Try.prog 15 #[.nilIface] w fun e w' => e = .returned (.int .i64 0) ∧ w' = w := by
  go_enter Try.func15, Try.ntmps15
  go_wp2
  go_ret
  exact ⟨rfl, rfl⟩

set_option maxHeartbeats 400000 in
theorem code_any (c : Nat) (w : World) (h1 : 1 ≤ c) (h8 : c ≤ 8) : Calls Try.prog 15 #[.iface 27 (.int .i64 c)] w fun e w' => e = .returned (.int .i64 c) ∧ w' = w := by
  have hq := fun k : Nat => eq_code c k
  go_enter Try.func15, Try.ntmps15
  go_wp2
  go_loop [3] (fun i => ∃ k : Nat, 1 ≤ k ∧ k ≤ c ∧ i = .int .i64 k) (fun i => 9 - (intOf i).toNat)
  case atStart => exact ⟨1, by omega, by omega, rfl⟩
  case round =>
    obtain ⟨k, k1, k2, rfl⟩ := hrel
    have hk8 : (k : Int) ≤ 8 := by omega
    by_cases e : k = c
    · subst e
      have hqk := hq k
      rw [beq_self_eq_true] at hqk
      clear hq
      go_wp2
      go_ret
      exact ⟨rfl, rfl⟩
    · have hqk := hq k
      rw [show ((c : Int) == (k : Int)) = false by simp; omega] at hqk
      clear hq
      go_wp2
      go_round
      case rel => exact ⟨k + 1, by omega, by omega, by go_num⟩
      case measure => simp [intOf]; omega
end Go.Proofs.Yteoblaopbhdneaa
