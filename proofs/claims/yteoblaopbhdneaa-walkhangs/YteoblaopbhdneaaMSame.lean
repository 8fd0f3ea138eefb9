/- What slices.Equal and Same of package phys answer. -/
import Derived.Test.YteoblaopbhdneaaMNew
namespace Go.Proofs.Yteoblaopbhdneaa
open Go.RowKit

theorem eqArr8_at (n : Nat) (a0 a1 a2 a3 a4 a5 a6 a7 b0 b1 b2 b3 b4 b5 b6 b7 : Int) (w : World) : (Op.equalIn (n + 2) 75 (.agg #[.int .u64 a0, .int .u64 a1, .int .u64 a2, .int .u64 a3, .int .u64 a4, .int .u64 a5, .int .u64 a6, .int .u64 a7]) (.agg #[.int .u64 b0, .int .u64 b1, .int .u64 b2, .int .u64 b3, .int .u64 b4, .int .u64 b5, .int .u64 b6, .int .u64 b7])).run Try.prog w = .ok ((a0 == b0) && (a1 == b1) && (a2 == b2) && (a3 == b3) && (a4 == b4) && (a5 == b5) && (a6 == b6) && (a7 == b7)) w := by
  have p0 : ∀ (x0 x1 x2 x3 x4 x5 x6 x7 : Int) (w : World), (part 50 #[.int .u64 x0, .int .u64 x1, .int .u64 x2, .int .u64 x3, .int .u64 x4, .int .u64 x5, .int .u64 x6, .int .u64 x7] 0).run Try.prog w = .ok (.int .u64 x0) w := fun _ _ _ _ _ _ _ _ _ => by kernel_rfl
  have p1 : ∀ (x0 x1 x2 x3 x4 x5 x6 x7 : Int) (w : World), (part 50 #[.int .u64 x0, .int .u64 x1, .int .u64 x2, .int .u64 x3, .int .u64 x4, .int .u64 x5, .int .u64 x6, .int .u64 x7] 1).run Try.prog w = .ok (.int .u64 x1) w := fun _ _ _ _ _ _ _ _ _ => by kernel_rfl
  have p2 : ∀ (x0 x1 x2 x3 x4 x5 x6 x7 : Int) (w : World), (part 50 #[.int .u64 x0, .int .u64 x1, .int .u64 x2, .int .u64 x3, .int .u64 x4, .int .u64 x5, .int .u64 x6, .int .u64 x7] 2).run Try.prog w = .ok (.int .u64 x2) w := fun _ _ _ _ _ _ _ _ _ => by kernel_rfl
  have p3 : ∀ (x0 x1 x2 x3 x4 x5 x6 x7 : Int) (w : World), (part 50 #[.int .u64 x0, .int .u64 x1, .int .u64 x2, .int .u64 x3, .int .u64 x4, .int .u64 x5, .int .u64 x6, .int .u64 x7] 3).run Try.prog w = .ok (.int .u64 x3) w := fun _ _ _ _ _ _ _ _ _ => by kernel_rfl
  have p4 : ∀ (x0 x1 x2 x3 x4 x5 x6 x7 : Int) (w : World), (part 50 #[.int .u64 x0, .int .u64 x1, .int .u64 x2, .int .u64 x3, .int .u64 x4, .int .u64 x5, .int .u64 x6, .int .u64 x7] 4).run Try.prog w = .ok (.int .u64 x4) w := fun _ _ _ _ _ _ _ _ _ => by kernel_rfl
  have p5 : ∀ (x0 x1 x2 x3 x4 x5 x6 x7 : Int) (w : World), (part 50 #[.int .u64 x0, .int .u64 x1, .int .u64 x2, .int .u64 x3, .int .u64 x4, .int .u64 x5, .int .u64 x6, .int .u64 x7] 5).run Try.prog w = .ok (.int .u64 x5) w := fun _ _ _ _ _ _ _ _ _ => by kernel_rfl
  have p6 : ∀ (x0 x1 x2 x3 x4 x5 x6 x7 : Int) (w : World), (part 50 #[.int .u64 x0, .int .u64 x1, .int .u64 x2, .int .u64 x3, .int .u64 x4, .int .u64 x5, .int .u64 x6, .int .u64 x7] 6).run Try.prog w = .ok (.int .u64 x6) w := fun _ _ _ _ _ _ _ _ _ => by kernel_rfl
  have p7 : ∀ (x0 x1 x2 x3 x4 x5 x6 x7 : Int) (w : World), (part 50 #[.int .u64 x0, .int .u64 x1, .int .u64 x2, .int .u64 x3, .int .u64 x4, .int .u64 x5, .int .u64 x6, .int .u64 x7] 7).run Try.prog w = .ok (.int .u64 x7) w := fun _ _ _ _ _ _ _ _ _ => by kernel_rfl
  have hs : (sizeOf 50).run Try.prog w = .ok 1 w := by kernel_rfl
  have e1 : ∀ (x y : Int), (Op.equalIn (n + 1) 50 (.int .u64 x) (.int .u64 y)).run Try.prog w = .ok (x == y) w := fun x y => run_equalIn_int w n 50 .u64 .u64 x y Try.underlying50
  rw [Op.equalIn]
  simp only [Sem.run_bind, run_underlying Try.underlying75, Result.andThen_ok, hs]
  simp only [Std.Legacy.Range.forIn_eq_forIn_range', Std.Legacy.Range.size, List.range', List.forIn_cons, List.forIn_nil]
  simp only [Sem.run_bind, Nat.mul_one, Nat.zero_add, p0, e1, Result.andThen_ok]
  cases (a0 == b0)
  · simp
  simp only [Bool.not_true, Bool.false_eq_true, if_false, Bool.true_and, Sem.run_pure, Result.andThen_ok, Sem.run_bind, Nat.reduceAdd, p1, e1]
  cases (a1 == b1)
  · simp
  simp only [Bool.not_true, Bool.false_eq_true, if_false, Bool.true_and, Sem.run_pure, Result.andThen_ok, Sem.run_bind, p2, e1]
  cases (a2 == b2)
  · simp
  simp only [Bool.not_true, Bool.false_eq_true, if_false, Bool.true_and, Sem.run_pure, Result.andThen_ok, Sem.run_bind, p3, e1]
  cases (a3 == b3)
  · simp
  simp only [Bool.not_true, Bool.false_eq_true, if_false, Bool.true_and, Sem.run_pure, Result.andThen_ok, Sem.run_bind, p4, e1]
  cases (a4 == b4)
  · simp
  simp only [Bool.not_true, Bool.false_eq_true, if_false, Bool.true_and, Sem.run_pure, Result.andThen_ok, Sem.run_bind, p5, e1]
  cases (a5 == b5)
  · simp
  simp only [Bool.not_true, Bool.false_eq_true, if_false, Bool.true_and, Sem.run_pure, Result.andThen_ok, Sem.run_bind, p6, e1]
  cases (a6 == b6)
  · simp
  simp only [Bool.not_true, Bool.false_eq_true, if_false, Bool.true_and, Sem.run_pure, Result.andThen_ok, Sem.run_bind, p7, e1]
  cases (a7 == b7)
  · simp
  simp only [Bool.not_true, Bool.false_eq_true, if_false, Sem.run_pure, Result.andThen_ok]

def eq8B (f g : Nat → Nat) (k : Nat) : Bool := (List.range 8).all fun j => f (k * 8 + j) == g (k * 8 + j)
theorem eq8B_iff (f g : Nat → Nat) (k : Nat) : eq8B f g k = true ↔ ∀ j, j < 8 → f (k * 8 + j) = g (k * 8 + j) := by simp [eq8B]
theorem eq8_run (f g : Nat → Nat) (k : Nat) (w : World) : (Op.equalIn 10000 75 (.agg #[.int .u64 (f (k * 8)), .int .u64 (f (k * 8 + 1)), .int .u64 (f (k * 8 + 2)), .int .u64 (f (k * 8 + 3)), .int .u64 (f (k * 8 + 4)), .int .u64 (f (k * 8 + 5)), .int .u64 (f (k * 8 + 6)), .int .u64 (f (k * 8 + 7))]) (.agg #[.int .u64 (g (k * 8)), .int .u64 (g (k * 8 + 1)), .int .u64 (g (k * 8 + 2)), .int .u64 (g (k * 8 + 3)), .int .u64 (g (k * 8 + 4)), .int .u64 (g (k * 8 + 5)), .int .u64 (g (k * 8 + 6)), .int .u64 (g (k * 8 + 7))])).run Try.prog w = .ok (eq8B f g k) w := by
  rw [eqArr8_at 9998]
  congr 1
  rw [Bool.eq_iff_iff, eq8B_iff]
  simp only [Bool.and_eq_true, beq_iff_eq, Int.natCast_inj]
  constructor
  · rintro ⟨⟨⟨⟨⟨⟨⟨h0, h1⟩, h2⟩, h3⟩, h4⟩, h5⟩, h6⟩, h7⟩ j hj
    have : j = 0 ∨ j = 1 ∨ j = 2 ∨ j = 3 ∨ j = 4 ∨ j = 5 ∨ j = 6 ∨ j = 7 := by omega
    rcases this with rfl | rfl | rfl | rfl | rfl | rfl | rfl | rfl <;> simpa
  · intro h
    exact ⟨⟨⟨⟨⟨⟨⟨by simpa using h 0 (by omega), h 1 (by omega)⟩, h 2 (by omega)⟩, h 3 (by omega)⟩, h 4 (by omega)⟩, h 5 (by omega)⟩, h 6 (by omega)⟩, h 7 (by omega)⟩

def sameB (n : Nat) (f : Nat → Nat) (n' : Nat) (g : Nat → Nat) : Bool := n == n' && (List.range (8 * n)).all fun j => f j == g j
theorem sameB_iff (n : Nat) (f : Nat → Nat) (n' : Nat) (g : Nat → Nat) : sameB n f n' g = true ↔ n = n' ∧ ∀ j, j < 8 * n → f j = g j := by simp [sameB]

def QuietPost (w : World) (r : Value) (e : Ending) (w' : World) : Prop := e = .returned r ∧ ∃ m, w' = w.drewN m

set_option maxHeartbeats 400000 in
theorem equal_len (w : World) (s s' n n' cap cap' : Nat) (h : n ≠ n') :
    Calls Try.prog 36 #[.slice (some ⟨s, 0, none⟩) n cap, .slice (some ⟨s', 0, none⟩) n' cap'] w fun e w' => e = .returned (.bool false) ∧ w' = w := by
  have h' : ((n : Int) == (n' : Int)) = false := by simp; omega
  clear h
  go_enter Try.func36, Try.ntmps36
  go_wp2
  go_ret
  exact ⟨rfl, rfl⟩

set_option maxHeartbeats 1000000 in
theorem equal_all {B B' : Nat} {w : World} {b s b' s' n : Nat} {f g : Nat → Nat} (h : Mem B w b s n f) (h' : Mem B' w b' s' n g) (cap cap' : Nat) (hn : n ≤ 512) :
    Calls Try.prog 36 #[.slice (some ⟨s, 0, none⟩) n cap, .slice (some ⟨s', 0, none⟩) n cap'] w (QuietPost w (.bool (sameB n f n g))) := by
  obtain ⟨_, hc, _⟩ := h.rules
  obtain ⟨_, hc', _⟩ := h'.rules
  have HC : Hid _ := hc
  have HC' : Hid _ := hc'
  clear h h' hc hc'
  go_enter Try.func36, Try.ntmps36
  go_wp2
  go_loopw [13] (fun i W => ∃ k m : Nat, k ≤ n ∧ i = .int .i64 k ∧ W = w.drewN m ∧ ∀ j, j < 8 * k → f j = g j) (fun i _ => n - (intOf i).toNat)
  case atStart => exact ⟨0, 0, by omega, rfl, rfl, fun j hj => by omega⟩
  case round =>
    obtain ⟨k, m, hk, rfl, rfl, hall⟩ := hrel
    have HA : Hid (∀ j, j < 8 * k → f j = g j) := hall
    clear hall
    by_cases hlt : k < n
    · have hq := eq8_run f g k
      have c0 := HC.out (k * 8) (by omega)
      have c1 := HC.out (k * 8 + 1) (by omega)
      have c2 := HC.out (k * 8 + 2) (by omega)
      have c3 := HC.out (k * 8 + 3) (by omega)
      have c4 := HC.out (k * 8 + 4) (by omega)
      have c5 := HC.out (k * 8 + 5) (by omega)
      have c6 := HC.out (k * 8 + 6) (by omega)
      have c7 := HC.out (k * 8 + 7) (by omega)
      have d0 := HC'.out (k * 8) (by omega)
      have d1 := HC'.out (k * 8 + 1) (by omega)
      have d2 := HC'.out (k * 8 + 2) (by omega)
      have d3 := HC'.out (k * 8 + 3) (by omega)
      have d4 := HC'.out (k * 8 + 4) (by omega)
      have d5 := HC'.out (k * 8 + 5) (by omega)
      have d6 := HC'.out (k * 8 + 6) (by omega)
      have d7 := HC'.out (k * 8 + 7) (by omega)
      cases he : eq8B f g k
      · rw [he] at hq
        have HE : Hid _ := he
        clear he
        go_wp2
        go_quiet (fail)
        go_wp2
        go_ret
        refine ⟨ret_bool ?_, _, World.drewN_drewN _ _ _⟩
        symm
        rw [Bool.eq_false_iff]
        intro hs
        have hs := ((sameB_iff n f n g).1 hs).2
        have := (eq8B_iff f g k).2 fun j hj => hs (k * 8 + j) (by omega)
        rw [HE.out] at this
        cases this
      · rw [he] at hq
        have HE : Hid _ := he
        clear he
        go_wp2
        go_quiet (fail)
        go_wp2
        go_roundw
        case rel =>
          refine ⟨k + 1, _, by omega, by go_num, rfl, fun j hj => ?_⟩
          by_cases e : j < 8 * k
          · exact HA.out j e
          · have := (eq8B_iff f g k).1 HE.out (j - k * 8) (by omega)
            have e2 : k * 8 + (j - k * 8) = j := by omega
            rwa [e2] at this
        case measure => simp [intOf]; omega
    · have hkn : k = n := by omega
      go_wp2
      go_ret
      refine ⟨ret_bool ?_, m, rfl⟩
      symm
      rw [sameB_iff]
      exact ⟨rfl, fun j hj => HA.out j (by omega)⟩

set_option maxHeartbeats 400000 in
theorem same_nil {B : Nat} {w : World} {b s n : Nat} {f : Nat → Nat} (_ : Mem B w b s n f) :
    Calls Try.prog 21 #[.pointer (some ⟨b, 0, none⟩), .pointer none] w (QuietPost w (.bool false)) := by
  go_enter Try.func21, Try.ntmps21
  go_wp2
  go_quiet (fail)
  go_wp2
  go_ret
  exact ⟨rfl, _, rfl⟩

set_option maxHeartbeats 1000000 in
theorem same_any {B B' : Nat} {w : World} {b s b' s' n n' : Nat} {f g : Nat → Nat} (h : Mem B w b s n f) (h' : Mem B' w b' s' n' g) (hn : n ≤ 512) :
    Calls Try.prog 21 #[.pointer (some ⟨b, 0, none⟩), .pointer (some ⟨b', 0, none⟩)] w (QuietPost w (.bool (sameB n f n' g))) := by
  obtain ⟨⟨cap, hp, _⟩, _, _⟩ := h.rules
  obtain ⟨⟨cap', hp', _⟩, _, _⟩ := h'.rules
  have hE : ∀ m, Calls Try.prog 36 #[.slice (some ⟨s, 0, none⟩) n cap, .slice (some ⟨s', 0, none⟩) n' cap'] (w.drewN m) (QuietPost (w.drewN m) (.bool (sameB n f n' g))) := by
    intro m
    have k : Mem B (w.drewN m) b s n f := ⟨h.hb, h.hs, h.ne, h.ptr, h.row⟩
    have k' : Mem B' (w.drewN m) b' s' n' g := ⟨h'.hb, h'.hs, h'.ne, h'.ptr, h'.row⟩
    by_cases e : n = n'
    · subst e
      exact equal_all k k' cap cap' hn
    · have : sameB n f n' g = false := by rw [Bool.eq_false_iff]; intro q; exact e ((sameB_iff _ _ _ _).1 q).1
      rw [this]
      refine (equal_len (w.drewN m) s s' n n' cap cap' e).mono ?_
      rintro e w1 ⟨rfl, rfl⟩
      exact ⟨rfl, 0, rfl⟩
  clear h h'
  go_enter Try.func21, Try.ntmps21
  go_wp2
  go_quiet ((go_at_call 36; exact Calls.quiet_of (hE _)))
  go_wp2
  go_ret
  exact ⟨rfl, _, rfl⟩
end Go.Proofs.Yteoblaopbhdneaa
