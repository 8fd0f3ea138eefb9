/- What the statements' head and pick answer. -/
import Derived.Test.YtenicbjkhcoplaaMSame
import Derived.Lib.IfaceEq
namespace Go.Proofs.Ytenicbjkhcoplaa
open Go.RowKit

theorem eq_err (n : Int) (w : World) : (binOp .eql 25 (.iface 28 (.int .i64 n)) (.iface 28 (.int .i64 n))).run Try.prog w = .ok (.bool true) w := by
  have := Lib.run_eql_iface_int (P := Try.prog) w (t := 25) (tx := 28) (k := .i64) n n Try.underlying25 (by kernel_rfl) Try.underlying28
  rw [beq_self_eq_true] at this
  exact this

/-- What holds below B behind a call that writes a row of the call's own. -/
theorem below_row {B : Nat} {a w w' : World} {s : Nat} (h : Below B a w) (hz : B ≤ w.heap.size) (hg : w.grownBy w' (some s)) (hs : B ≤ s) : Below B a w' :=
  h.grown hg hz fun k hk => by cases hk; exact hs

theorem below_call' {a W w1 : World} (h : Below a.heap.size a W) (hb : Below W.heap.size W w1) : Below a.heap.size a w1 := h.trans (hb.mono h.size)

set_option maxHeartbeats 1000000 in
theorem up_any (w : World) :
    Calls Try.prog 7 #[] w fun e w' => e = .returned (.bool true) ∧ Below w.heap.size w w' := by
  have hq := eq_err 1
  go_enter Try.func7, Try.ntmps7
  go_wp2_with fail
  refine (new_yes 2 _ (by omega) (by omega)).mono ?_
  rintro e w1 ⟨b, s, rfl, M1, L1⟩
  go_wp2_with fail
  refine (store_mem M1 1 2 7 (by omega) (by omega)).mono ?_
  rintro e w2 ⟨rfl, M2, G⟩
  have L2 := below_row L1 L1.size G M1.hs
  clear M1 L1 G
  go_wp2_with fail
  refine (copy_yes M2 0 1 (by omega) (by omega)).mono ?_
  rintro e w3 ⟨rfl, M3, G⟩
  have L3 := below_row L2 L2.size G M2.hs
  clear M2 L2 G
  go_wp2_with fail
  refine (load_yes M3 0 2 (by omega) (by omega)).mono ?_
  rintro e w4 ⟨rfl, rfl⟩
  go_wp2_with fail
  refine (load_no M3 0 8 (by decide)).mono ?_
  rintro e w5 ⟨rfl, rfl⟩
  clear M3
  go_wp2
  go_ret
  exact ⟨rfl, L3⟩

def pickN (c : Int) (n : Nat) : Nat := ((if c < 0 then -(c + 1) else c) % n).toNat
theorem pickN_lt (c : Int) (n : Nat) (h : 0 < n) : pickN c n < n := by
  unfold pickN
  have h1 := Int.emod_nonneg (if c < 0 then -(c + 1) else c) (show (n : Int) ≠ 0 by omega)
  have h2 := Int.emod_lt_of_pos (if c < 0 then -(c + 1) else c) (show (0 : Int) < n by omega)
  omega
theorem pickN_eq (c : Int) (n : Nat) (h : 0 < n) : ((pickN c n : Nat) : Int) = (if c < 0 then -(c + 1) else c) % n := by
  unfold pickN
  have h1 := Int.emod_nonneg (if c < 0 then -(c + 1) else c) (show (n : Int) ≠ 0 by omega)
  omega

set_option maxHeartbeats 400000 in
theorem pick_any (c : Int) (n : Nat) (w : World) (h1 : -9223372036854775808 ≤ c) (h2 : c ≤ 9223372036854775807) (hn : 0 < n) (hn' : n ≤ 100) :
    Calls Try.prog 11 #[.int .i64 c, .int .i64 n] w fun e w' => e = .returned (.int .i64 (pickN c n)) ∧ w' = w := by
  have he := pickN_eq c n hn
  have HE : Hid _ := he
  clear he
  by_cases h0 : c < 0
  · obtain ⟨q, hq⟩ : ∃ q, -(c + 1) = q := ⟨_, rfl⟩
    have hq0 : 0 ≤ q := by omega
    have hn0 : ¬ ((n : Int) = 0) := by omega
    go_enter Try.func11, Try.ntmps11
    go_wp2
    go_ret
    exact ⟨ret_int (by rw [HE.out, if_pos h0, hq]), rfl⟩
  · go_enter Try.func11, Try.ntmps11
    go_wp2
    go_ret
    exact ⟨ret_int (by rw [HE.out, if_neg (by omega)]), rfl⟩

/-- pick, for a walk that meets it with several numbers. -/
def pk (c n : Int) : Nat := pickN c n.toNat
theorem pk_lt (c n : Int) (h : 0 < n) : (pk c n : Int) < n := by have := pickN_lt c n.toNat (by omega); unfold pk; omega
theorem pick_k (c n : Int) (w : World) (h1 : -9223372036854775808 ≤ c) (h2 : c ≤ 9223372036854775807) (hn : 0 < n) (hn' : n ≤ 100) :
    Calls Try.prog 11 #[.int .i64 c, .int .i64 n] w fun e w' => e = .returned (.int .i64 (pk c n)) ∧ w' = w := by
  have := pick_any c n.toNat w h1 h2 (by omega) (by omega)
  rwa [show ((n.toNat : Nat) : Int) = n by omega] at this

set_option maxHeartbeats 1000000 in
theorem walk_physNew (a : Int) (w : World) (ha : -9223372036854775808 ≤ a ∧ a ≤ 9223372036854775807) :
    Calls Try.prog 3 #[.int .i64 a] w fun e w' => e = .returned (.bool true) ∧ Below w.heap.size w w' := by
  obtain ⟨ha, ha'⟩ := ha
  have hq := eq_err 1
  by_cases h : a < 1 ∨ 512 < a
  · have hN := fun w => new_no a w h
    rcases h with h | h
    · go_enter Try.func3, Try.ntmps3
      go_wp2_with fail
      refine (up_any _).mono ?_
      rintro e w1 ⟨rfl, L1⟩
      go_wp2_with fail
      refine (hN _).mono ?_
      rintro e w2 ⟨rfl, rfl⟩
      clear hN
      go_wp2
      go_ret
      exact ⟨rfl, L1⟩
    · have h' : ¬ a < 1 := by omega
      go_enter Try.func3, Try.ntmps3
      go_wp2_with fail
      refine (up_any _).mono ?_
      rintro e w1 ⟨rfl, L1⟩
      go_wp2_with fail
      refine (hN _).mono ?_
      rintro e w2 ⟨rfl, rfl⟩
      clear hN
      go_wp2
      go_ret
      exact ⟨rfl, L1⟩
  · obtain ⟨n, rfl⟩ : ∃ n : Nat, a = n := ⟨a.toNat, by omega⟩
    have h1 : 1 ≤ n := by omega
    have h2 : n ≤ 512 := by omega
    have t1 : ¬ ((n : Int) < 1) := by omega
    have t2 : ¬ (512 < (n : Int)) := by omega
    obtain ⟨k, hk⟩ : ∃ k : Nat, (n : Int) - 1 = k := ⟨n - 1, by omega⟩
    have hkn : k < n := by omega
    have hP : okP n n 0 = false := by simp [okP]
    clear h ha ha'
    go_enter Try.func3, Try.ntmps3
    go_wp2_with fail
    refine (up_any _).mono ?_
    rintro e w1 ⟨rfl, L1⟩
    go_wp2_with fail
    refine (new_yes n _ h1 h2).mono ?_
    rintro e w2 ⟨b, s, rfl, M, L⟩
    have L2 := below_call' L1 L
    clear L1 L
    go_wp2_with fail
    refine (frames_any M).mono ?_
    rintro e w3 ⟨rfl, rfl⟩
    go_wp2_with fail
    refine (load_yes M k 7 hkn (by omega)).mono ?_
    rintro e w4 ⟨rfl, rfl⟩
    go_wp2_with fail
    refine (load_no M n 0 hP).mono ?_
    rintro e w5 ⟨rfl, rfl⟩
    clear M
    go_wp2
    go_ret
    exact ⟨rfl, L2⟩
end Go.Proofs.Ytenicbjkhcoplaa
