/- What walk.withFrame answers, for every descriptor. -/
import Derived.Test.YteoblaopbhdneaaKLeaf
namespace Go.Proofs.Yteoblaopbhdneaa
open Go.RowKit

/-- The beginning of what is told. -/
def headF (k : Int) (l t p : Nat) : Fnd := ⟨k, l, t, p, 0, 0, 0, 0, false, false, false⟩

set_option maxRecDepth 100000 in
set_option maxHeartbeats 2000000 in
theorem withFrame_none (d : Dsc) (l t p page : Nat) (w : World) (h2 : d.kind ≠ 2) (h3 : d.kind ≠ 3) :
    Calls Try.prog 30 #[fv (headF d.kind l t p), dv d, .int .i64 page] w fun e w' => e = .returned (fv (endF d l t p page)) ∧ Below w.heap.size w w' := by
  have e : endF d l t p page = headF d.kind l t p := by unfold endF headF; rw [if_neg h2, if_neg h3]
  rw [e]
  clear e
  have hL := isLeaf_any d.kind
  rw [show decide (d.kind = 2 ∨ d.kind = 3) = false by simp [h2, h3]] at hL
  obtain ⟨k, fr, wr, ex, sn, fo, so⟩ := d
  simp only at hL
  clear h2 h3
  unfold fv dv headF
  simp only
  go_enter Try.func30, Try.ntmps30
  go_wp2_with (go_at_call 32; refine (hL _).mono ?_; rintro e w1 ⟨rfl, hw⟩; obtain rfl := hw.symm; clear hw)
  refine bodyPost_ret (v := .agg #[.int .i64 k, .int .i64 l, .int .i64 t, .int .i64 p, .int .i64 0, .int .i64 0, .int .i64 0, .int .i64 0, .bool false, .bool false, .bool false]) ?_ rfl ⟨rfl, ?_⟩
  · simp [results, Try.results30, go_sem]
  · repeat' (first | (with_reducible exact Below.refl _ _) | (with_reducible refine Below.setCell ?_ ?_ _) | (with_reducible refine below_drewN ?_ _) | (with_reducible refine Below.alloc ?_ ?_ _) | (with_reducible exact Nat.le_refl _))
    all_goals go_size

set_option maxRecDepth 100000 in
set_option maxHeartbeats 4000000 in
theorem withFrame_block (fr so : Int) (wr ex sn fo : Bool) (l t p page : Nat) (w : World) (hp : page < 4096) (f0 : 0 ≤ fr) (f1 : fr < 512) :
    Calls Try.prog 30 #[fv (headF 2 l t p), dv ⟨2, fr, wr, ex, sn, fo, so⟩, .int .i64 page] w fun e w' => e = .returned (fv ⟨2, l, t, p, fr + (page % 8 : Nat), 3, (page / 8 * 8 : Nat), fr, wr, ex, sn⟩) ∧ Below w.heap.size w w' := by
  have hL := isLeaf_any 2
  rw [show decide ((2 : Int) = 2 ∨ (2 : Int) = 3) = true by simp] at hL
  have hO := orderOf_any ⟨2, fr, wr, ex, sn, fo, so⟩
  rw [show ordI ⟨2, fr, wr, ex, sn, fo, so⟩ = 3 from rfl] at hO
  have hD := fun w => down_yes page 3 w (by simp [alignB]; omega)
  obtain ⟨m, hm⟩ : ∃ m : Nat, m = page / 8 * 8 := ⟨_, rfl⟩
  rw [show ((page : Int) / 2 ^ (3 : Int).toNat * 2 ^ (3 : Int).toNat) = (m : Int) by rw [hm]; simp] at hD
  rw [← hm]
  obtain ⟨r, hr⟩ : ∃ r : Nat, r = page % 8 := ⟨_, rfl⟩
  rw [← hr]
  have hpm : (page : Int) - (m : Int) = r := by omega
  have hr8 : r < 8 := by omega
  clear hm hr
  unfold fv dv headF at *
  simp only at *
  go_enter Try.func30, Try.ntmps30
  go_wp2_with (first | (go_at_call 32; refine (hL _).mono ?_; rintro e w1 ⟨rfl, hw⟩; obtain rfl := hw.symm; clear hw) | (go_at_call 42; refine (hO _).mono ?_; rintro e w1 ⟨rfl, hw⟩; obtain rfl := hw.symm; clear hw) | (go_at_call 43; refine (hD _).mono ?_; rintro e w1 ⟨rfl, hw⟩; obtain rfl := hw.symm; clear hw))
  go_region
  go_wp2
  go_region
  go_wp2
  refine bodyPost_ret (v := .agg #[.int .i64 2, .int .i64 l, .int .i64 t, .int .i64 p, .int .i64 (fr + r), .int .i64 3, .int .i64 m, .int .i64 fr, .bool wr, .bool ex, .bool sn]) ?_ rfl ⟨rfl, ?_⟩
  · simp [results, Try.results30, go_sem]
  · repeat' (first | (with_reducible exact Below.refl _ _) | (with_reducible refine Below.setCell ?_ ?_ _) | (with_reducible refine below_drewN ?_ _) | (with_reducible refine Below.drew ?_) | (with_reducible refine Below.alloc ?_ ?_ _) | (with_reducible exact Nat.le_refl _))
    all_goals go_size

set_option maxRecDepth 100000 in
set_option maxHeartbeats 4000000 in
theorem withFrame_page (fr so o : Int) (wr ex sn fo : Bool) (l t p page m r : Nat) (w : World) (f0 : 0 ≤ fr) (f1 : fr < 512) (hpm : (page : Int) - (m : Int) = r) (hr : r < 8) (hO : ordI ⟨3, fr, wr, ex, sn, fo, so⟩ = o)
    (hD : ∀ w, Calls Try.prog 43 #[.int .i64 page, .int .i64 o] w fun e w' => e = .returned (.tuple #[.int .i64 m, .nilIface]) ∧ w' = w) :
    Calls Try.prog 30 #[fv (headF 3 l t p), dv ⟨3, fr, wr, ex, sn, fo, so⟩, .int .i64 page] w fun e w' => e = .returned (fv ⟨3, l, t, p, fr, o, m, fr - r, wr, ex, sn⟩) ∧ Below w.heap.size w w' := by
  have hL := isLeaf_any 3
  rw [show decide ((3 : Int) = 2 ∨ (3 : Int) = 3) = true by simp] at hL
  have hO' := orderOf_any ⟨3, fr, wr, ex, sn, fo, so⟩
  rw [hO] at hO'
  clear hO
  unfold fv dv headF at *
  simp only at *
  go_enter Try.func30, Try.ntmps30
  go_wp2_with (first | (go_at_call 32; refine (hL _).mono ?_; rintro e w1 ⟨rfl, hw⟩; obtain rfl := hw.symm; clear hw) | (go_at_call 42; refine (hO' _).mono ?_; rintro e w1 ⟨rfl, hw⟩; obtain rfl := hw.symm; clear hw) | (go_at_call 43; refine (hD _).mono ?_; rintro e w1 ⟨rfl, hw⟩; obtain rfl := hw.symm; clear hw))
  go_region
  go_wp2
  go_region
  go_wp2
  refine bodyPost_ret (v := .agg #[.int .i64 3, .int .i64 l, .int .i64 t, .int .i64 p, .int .i64 fr, .int .i64 o, .int .i64 m, .int .i64 (fr - r), .bool wr, .bool ex, .bool sn]) ?_ rfl ⟨rfl, ?_⟩
  · simp [results, Try.results30, go_sem]
  · repeat' (first | (with_reducible exact Below.refl _ _) | (with_reducible refine Below.setCell ?_ ?_ _) | (with_reducible refine below_drewN ?_ _) | (with_reducible refine Below.drew ?_) | (with_reducible refine Below.alloc ?_ ?_ _) | (with_reducible exact Nat.le_refl _))
    all_goals go_size

theorem withFrame_any (d : Dsc) (l t p page : Nat) (w : World) (hp : page < 4096) (f0 : 0 ≤ d.frame) (f1 : d.frame < 512) :
    Calls Try.prog 30 #[fv (headF d.kind l t p), dv d, .int .i64 page] w fun e w' => e = .returned (fv (endF d l t p page)) ∧ Below w.heap.size w w' := by
  by_cases h2 : d.kind = 2
  · obtain ⟨k, fr, wr, ex, sn, fo, so⟩ := d
    simp only at h2 f0 f1
    subst h2
    exact withFrame_block fr so wr ex sn fo l t p page w hp f0 f1
  by_cases h3 : d.kind = 3
  · obtain ⟨k, fr, wr, ex, sn, fo, so⟩ := d
    simp only at h3 f0 f1
    subst h3
    cases fo
    · have hD := fun w => down_yes page 0 w (by simp [alignB]; omega)
      rw [show ((page : Int) / 2 ^ (0 : Int).toNat * 2 ^ (0 : Int).toNat) = (page : Int) by simp] at hD
      have := withFrame_page fr so 0 wr ex sn false l t p page page 0 w f0 f1 (by omega) (by omega) rfl hD
      rw [show fr - ((0 : Nat) : Int) = fr by omega] at this
      exact this
    · have hD := fun w => down_yes page 2 w (by simp [alignB]; omega)
      rw [show ((page : Int) / 2 ^ (2 : Int).toNat * 2 ^ (2 : Int).toNat) = ((page / 4 * 4 : Nat) : Int) by simp] at hD
      exact withFrame_page fr so 2 wr ex sn true l t p page (page / 4 * 4) (page % 4) w f0 f1 (by omega) (by omega) rfl hD
  · exact withFrame_none d l t p page w h2 h3
end Go.Proofs.Yteoblaopbhdneaa
