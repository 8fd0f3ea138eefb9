/- Whether there is a block; its buddy. -/
import Derived.Test.YtbpihdeinkopfaaDoorUSrch2
import Derived.Laws.StructEq
namespace Go.Proofs.YtbpihdeinkopfaaDoor
open Go.RowKit

set_option maxHeartbeats 400000 in
theorem down_noU (n o : Int) (w : World) (h : alignB n o = false) :
    Calls Tryd.prog 48 #[.int .i64 n, .int .i64 o] w fun e w' => e = .returned (.tuple #[.int .i64 0, .iface 28 (.int .i64 1)]) ∧ w' = w := by
  have hA := mayAlign_any n o
  rw [h] at hA
  go_enter Tryd.func48, Tryd.ntmps48
  go_wp2_with (go_at_call 52; refine (hA _).mono ?_; rintro e w1 ⟨rfl, hw⟩; obtain rfl := hw.symm; clear hw)
  go_ret2
  exact ⟨rfl, rfl⟩

theorem down_eq (f k : Nat) : ((f : Int) / 2 ^ k * 2 ^ k = f) ↔ f % 2 ^ k = 0 := by
  have e : ((2 : Int) ^ k) = ((2 ^ k : Nat) : Int) := by simp
  rw [e]
  have h := Nat.div_add_mod f (2 ^ k)
  rw [Nat.mul_comm] at h
  have e2 : (f : Int) / ((2 ^ k : Nat) : Int) * ((2 ^ k : Nat) : Int) = ((f / 2 ^ k * 2 ^ k : Nat) : Int) := by simp
  rw [e2]
  omega

set_option maxHeartbeats 400000 in
theorem isAligned_any (z : Int) (k : Nat) (w : World) (hz : z ≤ 1048576) (hk : k ≤ 20) :
    Calls Tryd.prog 39 #[.int .i64 z, .int .i64 k] w fun e w' => e = .returned (.bool (decide (0 ≤ z ∧ z.toNat % 2 ^ k = 0))) ∧ w' = w := by
  by_cases h : 0 ≤ z
  · have hc := down_yes z k w (by simp [alignB]; omega)
    obtain ⟨f, rfl⟩ : ∃ f : Nat, z = f := ⟨z.toNat, by omega⟩
    rw [Int.toNat_natCast] at hc
    have he := down_eq f k
    generalize (f : Int) / 2 ^ k * 2 ^ k = y at hc he
    go_enter Tryd.func39, Tryd.ntmps39
    go_wp2_with (go_at_call 48; refine hc.mono ?_; rintro e w1 ⟨rfl, hw⟩; obtain rfl := hw.symm; clear hw)
    go_ret
    refine ⟨ret_bool ?_, rfl⟩
    rw [Int.toNat_natCast, Bool.eq_iff_iff]
    simp only [beq_iff_eq, decide_eq_true_eq]
    rw [he]
    omega
  · have hc := down_noU z k w (by simp [alignB]; omega)
    rw [show decide (0 ≤ z ∧ z.toNat % 2 ^ k = 0) = false by simp; omega]
    clear h
    go_enter Tryd.func39, Tryd.ntmps39
    go_wp2_with (go_at_call 48; refine hc.mono ?_; rintro e w1 ⟨rfl, hw⟩; obtain rfl := hw.symm; clear hw)
    go_ret
    exact ⟨rfl, rfl⟩

/-- There is a block. -/
def hasB (n : Nat) (z o : Int) : Bool := decide (0 ≤ o ∧ o ≤ 5 ∧ 0 ≤ z ∧ z.toNat % 2 ^ o.toNat = 0 ∧ z + (2 ^ o.toNat : Nat) ≤ n)
theorem hasB_nat {n : Nat} {z o : Int} (h : hasB n z o = true) : ∃ f k : Nat, z = f ∧ o = k ∧ alB (f, k) ∧ bend (f, k) ≤ n := by
  simp only [hasB, decide_eq_true_eq] at h
  obtain ⟨h1, h2, h3, h4, h5⟩ := h
  refine ⟨z.toNat, o.toNat, by omega, by omega, ⟨by show o.toNat ≤ 5; omega, Nat.dvd_of_mod_eq_zero h4⟩, ?_⟩
  unfold bend
  simp only
  omega
theorem hasB_of {n f k : Nat} (h : alB (f, k)) (hb : bend (f, k) ≤ n) : hasB n f k = true := by
  simp only [hasB, decide_eq_true_eq]
  have h5 : k ≤ 5 := h.1
  have h4 : 2 ^ k ∣ f := h.2
  have hb' : f + 2 ^ k ≤ n := hb
  refine ⟨by omega, by omega, by omega, ?_, ?_⟩
  · simpa using Nat.mod_eq_zero_of_dvd h4
  · rw [Int.toNat_natCast]
    omega

set_option maxHeartbeats 1000000 in
theorem hasBlock_any {F : Nat → Prop} {w : World} {p n : Nat} {v : Value} {L : List Bk} (hs : Sto F w p n v L) (hn : n ≤ 512) (z o : Int) (hz : -9223372036854775808 ≤ z ∧ z ≤ 9223372036854775807) :
    Calls Tryd.prog 30 #[.pointer (some ⟨p, 0, none⟩), .int .i64 z, .int .i64 o] w fun e w' => e = .returned (.bool (hasB n z o)) ∧ Below w.heap.size w w' := by
  have hM := fun w => mayOrder_any o w
  by_cases ho : 0 ≤ o ∧ o ≤ 5
  · obtain ⟨k, rfl⟩ : ∃ k : Nat, o = k := ⟨o.toNat, by omega⟩
    rw [show decide (0 ≤ (k : Int) ∧ (k : Int) ≤ 5) = true by simp; omega] at hM
    have hk : k ≤ 5 := by omega
    have hp : (2 : Nat) ^ k ≤ 32 := Nat.pow_le_pow_right (show 0 < 2 by decide) hk
    have e : ((2 ^ k : Nat) : Int) = 2 ^ k := by simp
    have hp0 : (0 : Int) ≤ 2 ^ k := Int.le_of_lt (Int.pow_pos (by decide))
    have hp1 : (2 : Int) ^ k ≤ 32 := by omega
    have h0 := hs.laid.cell 0
    simp at h0
    by_cases hle : z ≤ (n : Int) - 2 ^ k
    · have hA := fun w => isAligned_any z k w (by omega) (by omega)
      have he : decide (0 ≤ z ∧ z.toNat % 2 ^ k = 0) = hasB n z k := by
        unfold hasB
        rw [decide_eq_decide, Int.toNat_natCast]
        omega
      rw [he] at hA
      generalize hasB n z k = r at *
      clear hs ho e hp
      go_enter Tryd.func30, Tryd.ntmps30
      go_wp2
      go_quiet (first | (go_at_call 27; exact Calls.quiet_of_same (hM _)) | (go_at_call 39; exact Calls.quiet_of_same (hA _)))
      go_wp2
      go_ret
      exact ⟨rfl, below_drewN (Below.refl _ _) _⟩
    · have he : hasB n z k = false := by
        unfold hasB
        rw [decide_eq_false_iff_not, Int.toNat_natCast]
        omega
      rw [he]
      have hle' : decide (z ≤ (n : Int) - 2 ^ k) = false := decide_eq_false hle
      clear hs ho e hp he hle
      go_enter Tryd.func30, Tryd.ntmps30
      go_wp2
      go_quiet ((go_at_call 27; exact Calls.quiet_of_same (hM _)))
      go_wp2
      go_ret
      exact ⟨rfl, below_drewN (Below.refl _ _) _⟩
  · rw [decide_eq_false ho] at hM
    have he : hasB n z o = false := by
      unfold hasB
      rw [decide_eq_false_iff_not]
      omega
    rw [he]
    clear ho he hs
    go_enter Tryd.func30, Tryd.ntmps30
    go_wp2
    go_quiet ((go_at_call 27; exact Calls.quiet_of_same (hM _)))
    go_wp2
    go_ret
    exact ⟨rfl, below_drewN (Below.refl _ _) _⟩

theorem i64_xor_nat (x y : Nat) (hx : x < 9223372036854775808) (hy : y < 9223372036854775808) : bits .xor .i64 (x : Int) (y : Int) = ((x ^^^ y : Nat) : Int) := by
  have hlt : x ^^^ y < 2 ^ 63 := Nat.xor_lt_two_pow (by simpa using hx) (by simpa using hy)
  show IntKind.i64.wrap ((BitVec.ofInt 64 (x : Int) ^^^ BitVec.ofInt 64 (y : Int)).toNat : Int) = _
  rw [BitVec.toNat_xor, ofInt_u64 x (by omega), ofInt_u64 y (by omega)]
  simp only [IntKind.wrap, IntKind.signed, IntKind.bits]
  simp
  omega

set_option maxHeartbeats 1000000 in
theorem buddy_any (b : Bk) (w : World) (h1 : b.1 ≤ 1048576) (h5 : b.2 ≤ 20) :
    Calls Tryd.prog 42 #[bval b] w fun e w' => e = .returned (bval (bud b)) ∧ Below w.heap.size w w' := by
  have hp : (2 : Nat) ^ b.2 ≤ 1048576 := Nat.pow_le_pow_right (show 0 < 2 by decide) h5
  have e : ((2 ^ b.2 : Nat) : Int) = 2 ^ b.2 := by simp
  have hp0 : (0 : Int) ≤ 2 ^ b.2 := Int.le_of_lt (Int.pow_pos (by decide))
  have hp1 : (2 : Int) ^ b.2 ≤ 1048576 := by omega
  have hx := i64_xor_nat b.1 (2 ^ b.2) (by omega) (by omega)
  rw [e] at hx
  have hE : Hid (((2 ^ b.2 : Nat) : Int) = 2 ^ b.2) := e
  clear e hp
  unfold bval
  go_enter Tryd.func42, Tryd.ntmps42
  go_wp2
  go_region
  go_wp2
  refine bodyPost_ret (v := .agg #[.int .i64 (b.1 ^^^ 2 ^ b.2 : Nat), .int .i64 b.2]) ?_ rfl ⟨rfl, ?_⟩
  · simp [results, Tryd.results42, go_sem]
  · trace_state
    repeat' (first | exact Below.refl _ _ | (refine Below.alloc ?_ ?_ _) | (refine below_drewN ?_ _) | (refine Below.setCell ?_ ?_ _) | (simp; done) | (simp; omega))
end Go.Proofs.YtbpihdeinkopfaaDoor
