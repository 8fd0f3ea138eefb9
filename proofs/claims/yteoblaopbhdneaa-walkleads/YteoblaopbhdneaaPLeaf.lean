/- What the small functions of package pte answer, for all arguments. -/
import Derived.Test.YteoblaopbhdneaaWLeaf
import Derived.Test.YteoblaopbhdneaaPMask
namespace Go.Proofs.Yteoblaopbhdneaa
open Go.RowKit

def lvlB (l : Int) : Bool := decide (0 ≤ l ∧ l ≤ 3)
theorem lvlB_true {l : Int} (h : lvlB l = true) : 0 ≤ l ∧ l ≤ 3 := by simpa [lvlB] using h
theorem lvlB_false {l : Int} (h : lvlB l = false) : ¬ (0 ≤ l ∧ l ≤ 3) := by simpa only [lvlB, decide_eq_false_iff_not] using h

set_option maxHeartbeats 400000 in
theorem mayLevel_any (l : Int) (w : World) :
    Calls Try.prog 37 #[.int .i64 l] w fun e w' => e = .returned (.bool (lvlB l)) ∧ w' = w := by
  go_enter Try.func37, Try.ntmps37
  go_wp2
  all_goals go_ret
  all_goals refine ⟨ret_bool ?_, rfl⟩
  all_goals (rw [Bool.eq_iff_iff]; simp [lvlB]; try omega)

def bitI (b : Bool) (x : Int) : Int := if b then x else 0
set_option maxHeartbeats 400000 in
theorem bitIf_any (b : Bool) (x : Int) (w : World) :
    Calls Try.prog 47 #[.bool b, .int .u64 x] w fun e w' => e = .returned (.int .u64 (bitI b x)) ∧ w' = w := by
  cases b
  · go_enter Try.func47, Try.ntmps47
    go_wp2
    go_ret
    exact ⟨rfl, rfl⟩
  · go_enter Try.func47, Try.ntmps47
    go_wp2
    go_ret
    exact ⟨rfl, rfl⟩

set_option maxHeartbeats 400000 in
theorem hasRights_any (k : Int) (w : World) :
    Calls Try.prog 48 #[.int .i64 k] w fun e w' => e = .returned (.bool (rightsB k)) ∧ w' = w := by
  go_enter Try.func48, Try.ntmps48
  go_wp2
  all_goals go_ret
  all_goals refine ⟨ret_bool ?_, rfl⟩
  all_goals (rw [Bool.eq_iff_iff]; simp [rightsB]; try omega)

set_option maxHeartbeats 400000 in
theorem mayFrame_any (k : Int) (n : Nat) (w : World) (hn : n < 68719476736) :
    Calls Try.prog 50 #[.int .i64 k, .int .u64 n] w fun e w' => e = .returned (.bool (frameB k n)) ∧ w' = w := by
  go_enter Try.func50, Try.ntmps50
  go_wp2
  all_goals go_ret
  all_goals refine ⟨ret_bool ?_, rfl⟩
  all_goals (try simp only [bne_iff_ne, ne_eq, bne_eq_false_iff_eq] at *)
  all_goals (rw [Bool.eq_iff_iff]; simp [frameB]; try omega)

set_option maxHeartbeats 400000 in
theorem shape_any (k : Int) (w : World) :
    Calls Try.prog 46 #[.int .i64 k] w fun e w' => e = .returned (.tuple #[.int .u64 (mustN k : Nat), .int .u64 (mayN k : Nat)]) ∧ w' = w := by
  by_cases h1 : k = 1
  · subst h1
    go_enter Try.func46, Try.ntmps46
    go_wp2
    go_ret2
    exact ⟨rfl, rfl⟩
  by_cases h2 : k = 2
  · subst h2
    go_enter Try.func46, Try.ntmps46
    go_wp2
    go_ret2
    exact ⟨rfl, rfl⟩
  by_cases h3 : k = 3
  · subst h3
    go_enter Try.func46, Try.ntmps46
    go_wp2
    go_ret2
    exact ⟨rfl, rfl⟩
  by_cases h4 : k = 4
  · subst h4
    go_enter Try.func46, Try.ntmps46
    go_wp2
    go_ret2
    exact ⟨rfl, rfl⟩
  have e1 : mustN k = 0 := by unfold mustN; rw [if_neg h1, if_neg h2, if_neg h3, if_neg h4]
  have e2 : mayN k = 0 := by unfold mayN; rw [if_neg h1, if_neg h2, if_neg h3, if_neg h4]
  rw [e1, e2]
  clear e1 e2
  go_enter Try.func46, Try.ntmps46
  go_wp2
  go_ret2
  exact ⟨rfl, rfl⟩

theorem andI_1 (x : Nat) (hx : x < 18446744073709551616) : bits BinOp.and IntKind.u64 (x : Int) 1 = ((x % 2 : Nat) : Int) := by
  rw [show (1 : Int) = ((1 : Nat) : Int) from rfl, u64_and_nat _ _ hx (by decide), nat_mask1]
theorem andI_2 (x : Nat) (hx : x < 18446744073709551616) : bits BinOp.and IntKind.u64 (x : Int) 2 = ((x / 2 % 2 * 2 : Nat) : Int) := by
  rw [show (2 : Int) = ((2 : Nat) : Int) from rfl, u64_and_nat _ _ hx (by decide), and_1]

set_option maxHeartbeats 400000 in
theorem kindOf_any (l : Int) (x : Nat) (w : World) (hx : x < 18446744073709551616) :
    Calls Try.prog 49 #[.int .i64 l, .int .u64 x] w fun e w' => e = .returned (.int .i64 (kindN l x)) ∧ w' = w := by
  have a1 := andI_1 x hx
  have a2 := andI_2 x hx
  go_enter Try.func49, Try.ntmps49
  go_wp2
  all_goals go_ret
  all_goals refine ⟨ret_int ?_, rfl⟩
  all_goals (unfold kindN; clear a1 a2; repeat' split)
  all_goals (first | rfl | (exfalso; omega) | (exfalso; simp_all; done) | (exfalso; simp_all; omega))

theorem mayB_12 : mayB 12 36 = true := by decide
theorem mayB_55 : mayB 55 3 = true := by decide

set_option maxHeartbeats 400000 in
theorem pfield_any (x : Nat) (a n : Int) (w : World) (hx : x < 18446744073709551616) (h : mayB a n = true) :
    Calls Try.prog 51 #[.int .u64 x, .int .i64 a, .int .i64 n] w fun e w' => e = .returned (.int .u64 (fld x a.toNat n.toNat)) ∧ ∃ d, w' = w.drewN d := by
  go_enter Try.func51, Try.ntmps51
  go_wp2_with (go_at_call 40; refine (field_yes _ _ _ _ hx h).mono ?_; rintro e w1 ⟨rfl, d, rfl⟩)
  go_ret
  exact ⟨rfl, _, rfl⟩

theorem frame_any (x : Nat) (w : World) (hx : x < 18446744073709551616) :
    Calls Try.prog 51 #[.int .u64 x, .int .i64 12, .int .i64 36] w fun e w' => e = .returned (.int .u64 (wF x)) ∧ ∃ d, w' = w.drewN d := by
  have := pfield_any x 12 36 w hx mayB_12
  rw [show fld x (12 : Int).toNat (36 : Int).toNat = wF x from fld_F x] at this
  exact this
theorem soft_any (x : Nat) (w : World) (hx : x < 18446744073709551616) :
    Calls Try.prog 51 #[.int .u64 x, .int .i64 55, .int .i64 3] w fun e w' => e = .returned (.int .u64 (wS x)) ∧ ∃ d, w' = w.drewN d := by
  have := pfield_any x 55 3 w hx mayB_55
  rw [show fld x (55 : Int).toNat (3 : Int).toNat = wS x from fld_S x] at this
  exact this
end Go.Proofs.Yteoblaopbhdneaa
