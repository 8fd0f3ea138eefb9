/- What walk.Place and walk.Walk answer, for all arguments. -/
import Derived.Test.YteoblaopbhdneaaKWith
import Derived.Test.YteoblaopbhdneaaMNew
namespace Go.Proofs.Yteoblaopbhdneaa
open Go.RowKit

abbrev errF : Value := .iface 27 (.int .i64 2)

set_option maxHeartbeats 400000 in
theorem place_yes (l page : Nat) (w : World) (hl : l ≤ 3) (hp : page < 4096) :
    Calls Try.prog 10 #[.int .i64 l, .int .i64 page] w fun e w' => e = .returned (.tuple #[.int .i64 (dig l page), .nilIface]) ∧ ∃ d, w' = w.drewN d := by
  have hP := isPage_any page
  rw [show pageB page = true by simp [pageB]; omega] at hP
  have h4 : (l : Int) < 4 := by omega
  go_enter Try.func10, Try.ntmps10
  go_wp2_with (first | (go_at_call 24; refine (hP _).mono ?_; rintro e w1 ⟨rfl, hw⟩; obtain rfl := hw.symm; clear hw) | (go_at_call 25; refine (placeOf_at l page _ hl hp).mono ?_; rintro e w1 ⟨rfl, d, rfl⟩))
  go_ret2
  exact ⟨rfl, _, rfl⟩

set_option maxHeartbeats 400000 in
theorem place_no (l page : Int) (w : World) (h : l < 0 ∨ 4 ≤ l ∨ pageB page = false) :
    Calls Try.prog 10 #[.int .i64 l, .int .i64 page] w fun e w' => e = .returned (.tuple #[.int .i64 0, errA]) ∧ w' = w := by
  by_cases h0 : l < 0
  · clear h
    go_enter Try.func10, Try.ntmps10
    go_wp2
    go_ret2
    exact ⟨rfl, rfl⟩
  by_cases h4 : 4 ≤ l
  · clear h
    go_enter Try.func10, Try.ntmps10
    go_wp2
    go_ret2
    exact ⟨rfl, rfl⟩
  · have hp : pageB page = false := by
      rcases h with h | h | h
      · exact absurd h h0
      · exact absurd h h4
      · exact h
    clear h
    have hP := isPage_any page
    rw [hp] at hP
    go_enter Try.func10, Try.ntmps10
    go_wp2_with (go_at_call 24; refine (hP _).mono ?_; rintro e w1 ⟨rfl, hw⟩; obtain rfl := hw.symm; clear hw)
    go_ret2
    exact ⟨rfl, rfl⟩

set_option maxHeartbeats 1000000 in
theorem walk_nil (root page : Int) (w : World) :
    Calls Try.prog 13 #[.pointer none, .int .i64 root, .int .i64 page] w fun e w' => e = .returned (.tuple #[fv nilF, errA]) ∧ Below w.heap.size w w' := by
  go_enter Try.func13, Try.ntmps13
  go_wp2_with (go_at_call 28; refine (hasRoot_nil _ _).mono ?_; rintro e w1 ⟨rfl, hw⟩; obtain rfl := hw.symm; clear hw)
  refine bodyPost_ret (v := .tuple #[fv nilF, errA]) ?_ rfl ⟨rfl, ?_⟩
  · simp [results, Try.results13, go_sem, fv, nilF]
  · repeat' (first | (with_reducible exact Below.refl _ _) | (with_reducible refine Below.setCell ?_ ?_ _) | (with_reducible refine Below.alloc ?_ ?_ _) | (with_reducible exact Nat.le_refl _))

set_option maxHeartbeats 1000000 in
theorem walk_no {B : Nat} {w : World} {b s n : Nat} {f : Nat → Nat} (h : Mem B w b s n f) (root page : Int) (hn : okF n root = false ∨ pageB page = false) :
    Calls Try.prog 13 #[.pointer (some ⟨b, 0, none⟩), .int .i64 root, .int .i64 page] w fun e w' => e = .returned (.tuple #[fv nilF, errA]) ∧ Below w.heap.size w w' := by
  have h1 : Mem B (w.alloc (.cells #[.int .i64 0, .int .i64 0, .int .i64 0, .int .i64 0, .int .i64 0, .int .i64 0, .int .i64 0, .int .i64 0, .bool false, .bool false, .bool false] 37)) b s n f := h.below ((Below.refl _ _).alloc (Nat.le_refl _) _)
  have hR := hasRoot_any h1 root
  have hP := isPage_any page
  clear h h1
  cases hr : okF n root
  · rw [hr] at hR
    go_enter Try.func13, Try.ntmps13
    go_wp2_with (go_at_call 28; refine hR.mono ?_; rintro e w1 ⟨rfl, hw⟩; obtain rfl := hw.symm; clear hw)
    refine bodyPost_ret (v := .tuple #[fv nilF, errA]) ?_ rfl ⟨rfl, ?_⟩
    · simp [results, Try.results13, go_sem, fv, nilF]
    · repeat' (first | (with_reducible exact Below.refl _ _) | (with_reducible refine Below.setCell ?_ ?_ _) | (with_reducible refine Below.alloc ?_ ?_ _) | (with_reducible exact Nat.le_refl _))
  · have hq : pageB page = false := by simpa [hr] using hn
    rw [hr] at hR
    rw [hq] at hP
    clear hn
    go_enter Try.func13, Try.ntmps13
    go_wp2_with (first | (go_at_call 28; refine hR.mono ?_; rintro e w1 ⟨rfl, hw⟩; obtain rfl := hw.symm; clear hw) | (go_at_call 24; refine (hP _).mono ?_; rintro e w1 ⟨rfl, hw⟩; obtain rfl := hw.symm; clear hw))
    refine bodyPost_ret (v := .tuple #[fv nilF, errA]) ?_ rfl ⟨rfl, ?_⟩
    · simp [results, Try.results13, go_sem, fv, nilF]
    · repeat' (first | (with_reducible exact Below.refl _ _) | (with_reducible refine Below.setCell ?_ ?_ _) | (with_reducible refine Below.alloc ?_ ?_ _) | (with_reducible exact Nat.le_refl _))
end Go.Proofs.Yteoblaopbhdneaa
