/- What the small functions of package pte answer, for all arguments. -/
import Derived.Test.YtjijgpdfoilijaaWLeaf
import Derived.Test.YtjijgpdfoilijaaPMask
namespace Go.Proofs.Ytjijgpdfoilijaa
open Go.RowKit

def lvlB (l : Int) : Bool := decide (0 ≤ l ∧ l ≤ 3)
theorem lvlB_true {l : Int} (h : lvlB l = true) : 0 ≤ l ∧ l ≤ 3 := by simpa [lvlB] using h
theorem lvlB_false {l : Int} (h : lvlB l = false) : ¬ (0 ≤ l ∧ l ≤ 3) := by simpa only [lvlB, decide_eq_false_iff_not] using h

set_option maxHeartbeats 400000 in
theorem mayLevel_any (l : Int) (w : World) :
    Calls Try.prog 34 #[.int .i64 l] w fun e w' => e = .returned (.bool (lvlB l)) ∧ w' = w := by
  go_enter Try.func34, Try.ntmps34
  go_wp2
  all_goals go_ret
  all_goals refine ⟨ret_bool ?_, rfl⟩
  all_goals (rw [Bool.eq_iff_iff]; simp [lvlB]; try omega)

def bitI (b : Bool) (x : Int) : Int := if b then x else 0
set_option maxHeartbeats 400000 in
theorem hasRights_any (k : Int) (w : World) :
    Calls Try.prog 44 #[.int .i64 k] w fun e w' => e = .returned (.bool (rightsB k)) ∧ w' = w := by
  go_enter Try.func44, Try.ntmps44
  go_wp2
  all_goals go_ret
  all_goals refine ⟨ret_bool ?_, rfl⟩
  all_goals (rw [Bool.eq_iff_iff]; simp [rightsB]; try omega)

set_option maxHeartbeats 400000 in
theorem mayFrame_any (k : Int) (n : Nat) (w : World) (hn : n < 68719476736) :
    Calls Try.prog 42 #[.int .i64 k, .int .u64 n] w fun e w' => e = .returned (.bool (frameB k n)) ∧ w' = w := by
  go_enter Try.func42, Try.ntmps42
  go_wp2
  all_goals go_ret
  all_goals refine ⟨ret_bool ?_, rfl⟩
  all_goals (try simp only [bne_iff_ne, ne_eq, bne_eq_false_iff_eq] at *)
  all_goals (rw [Bool.eq_iff_iff]; simp [frameB]; try omega)

set_option maxHeartbeats 400000 in
theorem shape_any (k : Int) (w : World) :
    Calls Try.prog 41 #[.int .i64 k] w fun e w' => e = .returned (.tuple #[.int .u64 (mustN k : Nat), .int .u64 (mayN k : Nat)]) ∧ w' = w := by
  by_cases h1 : k = 1
  · subst h1
    go_enter Try.func41, Try.ntmps41
    go_wp2
    go_ret2
    exact ⟨rfl, rfl⟩
  by_cases h2 : k = 2
  · subst h2
    go_enter Try.func41, Try.ntmps41
    go_wp2
    go_ret2
    exact ⟨rfl, rfl⟩
  by_cases h3 : k = 3
  · subst h3
    go_enter Try.func41, Try.ntmps41
    go_wp2
    go_ret2
    exact ⟨rfl, rfl⟩
  by_cases h4 : k = 4
  · subst h4
    go_enter Try.func41, Try.ntmps41
    go_wp2
    go_ret2
    exact ⟨rfl, rfl⟩
  have e1 : mustN k = 0 := by unfold mustN; rw [if_neg h1, if_neg h2, if_neg h3, if_neg h4]
  have e2 : mayN k = 0 := by unfold mayN; rw [if_neg h1, if_neg h2, if_neg h3, if_neg h4]
  rw [e1, e2]
  clear e1 e2
  go_enter Try.func41, Try.ntmps41
  go_wp2
  go_ret2
  exact ⟨rfl, rfl⟩

theorem andI_1 (x : Nat) (hx : x < 18446744073709551616) : bits BinOp.and IntKind.u64 (x : Int) 1 = ((x % 2 : Nat) : Int) := by
  rw [show (1 : Int) = ((1 : Nat) : Int) from rfl, u64_and_nat _ _ hx (by decide), nat_mask1]
theorem andI_2 (x : Nat) (hx : x < 18446744073709551616) : bits BinOp.and IntKind.u64 (x : Int) 2 = ((x / 2 % 2 * 2 : Nat) : Int) := by
  rw [show (2 : Int) = ((2 : Nat) : Int) from rfl, u64_and_nat _ _ hx (by decide), and_1]

set_option maxHeartbeats 400000 in
theorem kindOf_any (l : Int) (x : Nat) (w : World) (hx : x < 18446744073709551616) :
    Calls Try.prog 40 #[.int .i64 l, .int .u64 x] w fun e w' => e = .returned (.int .i64 (kindN l x)) ∧ w' = w := by
  have a1 := andI_1 x hx
  have a2 := andI_2 x hx
  go_enter Try.func40, Try.ntmps40
  go_wp2
  all_goals go_ret
  all_goals refine ⟨ret_int ?_, rfl⟩
  all_goals (unfold kindN; clear a1 a2; repeat' split)
  all_goals (first | rfl | (exfalso; omega) | (exfalso; simp_all; done) | (exfalso; simp_all; omega))

theorem mayB_12 : mayB 12 36 = true := by decide
theorem mayB_55 : mayB 55 3 = true := by decide

set_option maxHeartbeats 400000 in
theorem pfield_any (x : Nat) (a n : Int) (w : World) (hx : x < 18446744073709551616) (h : mayB a n = true) :
    Calls Try.prog 43 #[.int .u64 x, .int .i64 a, .int .i64 n] w fun e w' => e = .returned (.int .u64 (fld x a.toNat n.toNat)) ∧ ∃ d, w' = w.drewN d := by
  go_enter Try.func43, Try.ntmps43
  go_wp2_with (go_at_call 48; refine (field_yes _ _ _ _ hx h).mono ?_; rintro e w1 ⟨rfl, d, rfl⟩)
  go_ret
  exact ⟨rfl, _, rfl⟩

theorem frame_any (x : Nat) (w : World) (hx : x < 18446744073709551616) :
    Calls Try.prog 43 #[.int .u64 x, .int .i64 12, .int .i64 36] w fun e w' => e = .returned (.int .u64 (wF x)) ∧ ∃ d, w' = w.drewN d := by
  have := pfield_any x 12 36 w hx mayB_12
  rw [show fld x (12 : Int).toNat (36 : Int).toNat = wF x from fld_F x] at this
  exact this
theorem soft_any (x : Nat) (w : World) (hx : x < 18446744073709551616) :
    Calls Try.prog 43 #[.int .u64 x, .int .i64 55, .int .i64 3] w fun e w' => e = .returned (.int .u64 (wS x)) ∧ ∃ d, w' = w.drewN d := by
  have := pfield_any x 55 3 w hx mayB_55
  rw [show fld x (55 : Int).toNat (3 : Int).toNat = wS x from fld_S x] at this
  exact this
end Go.Proofs.Ytjijgpdfoilijaa
