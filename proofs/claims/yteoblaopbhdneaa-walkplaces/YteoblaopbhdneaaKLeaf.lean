/- What the small functions of package walk answer. -/
import Derived.Test.YteoblaopbhdneaaPBox
import Derived.Test.YteoblaopbhdneaaMOps
import Derived.Test.YteoblaopbhdneaaWAlign
import Derived.Test.YteoblaopbhdneaaKMath
namespace Go.Proofs.Yteoblaopbhdneaa
open Go.RowKit

/-- What was found, as a value. -/
def fv (x : Fnd) : Value := .agg #[.int .i64 x.kind, .int .i64 x.level, .int .i64 x.table, .int .i64 x.place, .int .i64 x.frame, .int .i64 x.order, .int .i64 x.first, .int .i64 x.base, .bool x.wr, .bool x.ex, .bool x.sn]

def pageB (p : Int) : Bool := decide (0 ≤ p ∧ p < 4096)
set_option maxHeartbeats 400000 in
theorem isPage_any (p : Int) (w : World) :
    Calls Try.prog 24 #[.int .i64 p] w fun e w' => e = .returned (.bool (pageB p)) ∧ w' = w := by
  go_enter Try.func24, Try.ntmps24
  go_wp2
  all_goals go_ret
  all_goals refine ⟨ret_bool ?_, rfl⟩
  all_goals (rw [Bool.eq_iff_iff]; simp [pageB]; try omega)

set_option maxHeartbeats 400000 in
theorem isLeaf_any (k : Int) (w : World) :
    Calls Try.prog 32 #[.int .i64 k] w fun e w' => e = .returned (.bool (decide (k = 2 ∨ k = 3))) ∧ w' = w := by
  go_enter Try.func32, Try.ntmps32
  go_wp2
  all_goals go_ret
  all_goals refine ⟨ret_bool ?_, rfl⟩
  all_goals (rw [Bool.eq_iff_iff]; simp; try omega)

set_option maxHeartbeats 400000 in
theorem hasRoot_any {B : Nat} {w : World} {b s n : Nat} {f : Nat → Nat} (h : Mem B w b s n f) (a : Int) :
    Calls Try.prog 28 #[.pointer (some ⟨b, 0, none⟩), .int .i64 a] w fun e w' => e = .returned (.bool (okF n a)) ∧ w' = w := by
  have hF := frames_any h
  clear h
  by_cases h0 : 0 ≤ a
  · go_enter Try.func28, Try.ntmps28
    go_wp2_with (go_at_call 41; refine hF.mono ?_; rintro e w1 ⟨rfl, hw⟩; obtain rfl := hw.symm; clear hw)
    all_goals go_ret
    all_goals refine ⟨ret_bool ?_, rfl⟩
    all_goals (rw [Bool.eq_iff_iff]; simp [okF]; try omega)
  · go_enter Try.func28, Try.ntmps28
    go_wp2_with (go_at_call 41; refine hF.mono ?_; rintro e w1 ⟨rfl, hw⟩; obtain rfl := hw.symm; clear hw)
    all_goals go_ret
    all_goals refine ⟨ret_bool ?_, rfl⟩
    all_goals (rw [Bool.eq_iff_iff]; simp [okF]; try omega)

set_option maxHeartbeats 400000 in
theorem hasRoot_nil (a : Int) (w : World) :
    Calls Try.prog 28 #[.pointer none, .int .i64 a] w fun e w' => e = .returned (.bool false) ∧ w' = w := by
  go_enter Try.func28, Try.ntmps28
  go_wp2
  go_ret
  exact ⟨rfl, rfl⟩

set_option maxHeartbeats 400000 in
theorem pageBits_at (l : Nat) (w : World) (hl : l ≤ 3) :
    Calls Try.prog 33 #[.int .i64 l] w fun e w' => e = .returned (.int .i64 ((3 * (3 - l) : Nat) : Int)) ∧ w' = w := by
  go_enter Try.func33, Try.ntmps33
  go_wp2
  go_ret
  exact ⟨ret_int (by omega), rfl⟩

theorem fld_dig (l page : Nat) : fld page (3 * (3 - l)) 3 = dig l page := by
  unfold fld dig
  rw [Nat.pow_mul]

set_option maxHeartbeats 400000 in
theorem placeOf_at (l page : Nat) (w : World) (hl : l ≤ 3) (hp : page < 4096) :
    Calls Try.prog 25 #[.int .i64 l, .int .i64 page] w fun e w' => e = .returned (.int .i64 (dig l page)) ∧ ∃ d, w' = w.drewN d := by
  have hB := fun w => pageBits_at l w hl
  have hm : mayB ((3 * (3 - l) : Nat) : Int) 3 = true := by simp [mayB]; omega
  have hF := fun w => field_yes page ((3 * (3 - l) : Nat) : Int) 3 w (by omega) hm
  rw [show fld page (((3 * (3 - l) : Nat) : Int)).toNat (3 : Int).toNat = dig l page from fld_dig l page] at hF
  have hd := dig_lt l page
  obtain ⟨q, hq⟩ : ∃ q, q = dig l page := ⟨_, rfl⟩
  rw [← hq] at hF hd ⊢
  obtain ⟨m, hm'⟩ : ∃ m : Int, m = ((3 * (3 - l) : Nat) : Int) := ⟨_, rfl⟩
  rw [← hm'] at hB hF
  clear hq hm hm'
  go_enter Try.func25, Try.ntmps25
  go_wp2_with (first | (go_at_call 33; refine (hB _).mono ?_; rintro e w1 ⟨rfl, hw⟩; obtain rfl := hw.symm; clear hw) | (go_at_call 40; refine (hF _).mono ?_; rintro e w1 ⟨rfl, d, rfl⟩))
  go_ret
  exact ⟨rfl, _, rfl⟩

def ordI (d : Dsc) : Int := if d.kind = 2 then 3 else if d.fo then 2 else 0
set_option maxHeartbeats 400000 in
theorem orderOf_any (d : Dsc) (w : World) :
    Calls Try.prog 42 #[dv d] w fun e w' => e = .returned (.int .i64 (ordI d)) ∧ w' = w.alloc (.cells #[.int .i64 d.kind, .int .i64 d.frame, .bool d.wr, .bool d.ex, .bool d.sn, .bool d.fo, .int .i64 d.so] 60) := by
  unfold dv
  obtain ⟨k, fr, wr, ex, sn, fo, so⟩ := d
  by_cases h2 : k = 2
  · subst h2
    go_enter Try.func42, Try.ntmps42
    go_wp2
    go_ret
    exact ⟨rfl, rfl⟩
  · have h2' : (k == 2) = false := by simpa using h2
    have e : ordI ⟨k, fr, wr, ex, sn, fo, so⟩ = if fo then 2 else 0 := by unfold ordI; rw [if_neg h2]
    rw [e]
    cases fo
    all_goals
      go_enter Try.func42, Try.ntmps42
      go_wp2
      go_ret
      exact ⟨rfl, rfl⟩

end Go.Proofs.Yteoblaopbhdneaa
