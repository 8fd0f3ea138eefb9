/- What pte.alike and pte.Change answer, for all arguments. -/
import Derived.Test.YtjijgpdfoilijaaPBox
namespace Go.Proofs.Ytjijgpdfoilijaa
open Go.RowKit

/-- a with b's seen and soft. -/
def mixD (a b : Dsc) : Dsc := ⟨a.kind, a.frame, a.wr, a.ex, b.sn, a.fo, b.so⟩
def alikeB (a b : Dsc) : Bool := decide (a.kind ≠ 5 ∧ b.kind ≠ 5) && eqD (mixD a b) b

set_option maxHeartbeats 1000000 in
theorem alike_bad (a b : Dsc) (w : World) (h : a.kind = 5 ∨ (a.kind ≠ 5 ∧ b.kind = 5)) :
    Calls Try.prog 35 #[dv a, dv b] w fun e w' => e = .returned (.bool false) ∧ Below w.heap.size w w' := by
  unfold dv
  rcases h with h | ⟨h1, h2⟩
  · go_enter Try.func35, Try.ntmps35
    go_wp2
    go_ret
    exact ⟨rfl, ((Below.refl _ _).alloc (Nat.le_refl _) _).alloc (by simp) _⟩
  · have h1' : (a.kind == 5) = false := by simpa using h1
    clear h1
    go_enter Try.func35, Try.ntmps35
    go_wp2
    go_ret
    exact ⟨rfl, ((Below.refl _ _).alloc (Nat.le_refl _) _).alloc (by simp) _⟩

set_option maxHeartbeats 1000000 in
theorem alike_good (a b : Dsc) (w : World) (h1 : a.kind ≠ 5) (h2 : b.kind ≠ 5) :
    Calls Try.prog 35 #[dv a, dv b] w fun e w' => e = .returned (.bool (eqD (mixD a b) b)) ∧ Below w.heap.size w w' := by
  have hq := eql_dsc (mixD a b) b
  have h1' : (a.kind == 5) = false := by simpa using h1
  have h2' : (b.kind == 5) = false := by simpa using h2
  obtain ⟨r, hr⟩ : ∃ r, r = eqD (mixD a b) b := ⟨_, rfl⟩
  rw [← hr] at hq ⊢
  unfold dv at *
  unfold mixD at hq
  clear h1 h2 hr
  simp only at hq
  go_enter Try.func35, Try.ntmps35
  go_wp2
  go_region
  go_wp2
  go_ret
  exact ⟨rfl, (((Below.refl _ _).alloc (Nat.le_refl _) _).alloc (by simp) _).drew⟩

theorem alike_any (a b : Dsc) (w : World) :
    Calls Try.prog 35 #[dv a, dv b] w fun e w' => e = .returned (.bool (alikeB a b)) ∧ Below w.heap.size w w' := by
  unfold alikeB
  by_cases h1 : a.kind = 5
  · rw [decide_eq_false (fun h => h.1 h1), Bool.false_and]
    exact alike_bad a b w (Or.inl h1)
  by_cases h2 : b.kind = 5
  · rw [decide_eq_false (fun h => h.2 h2), Bool.false_and]
    exact alike_bad a b w (Or.inr ⟨h1, h2⟩)
  rw [decide_eq_true ⟨h1, h2⟩, Bool.true_and]
  exact alike_good a b w h1 h2

/-- May one word become the other one? -/
def plainB (x y : Nat) : Bool := decide (x = y ∨ x % 2 = 0 ∨ y % 2 = 0)
def changeB (l : Int) (x y : Nat) : Bool := plainB x y || alikeB (saysD l x) (saysD l y)

set_option maxHeartbeats 1000000 in
theorem change_lvl (l : Int) (x y : Nat) (w : World) (h : lvlB l = false) :
    Calls Try.prog 22 #[.int .i64 l, .int .u64 x, .int .u64 y] w fun e w' => e = .returned (.tuple #[.bool false, .iface 49 (.int .i64 1)]) ∧ Below w.heap.size w w' := by
  go_enter Try.func22, Try.ntmps22
  go_wp2_with (go_at_call 34; refine (mayLevel_any _ _).mono ?_; rintro e w1 ⟨rfl, hw⟩; obtain rfl := hw.symm; clear hw)
  go_ret2
  exact ⟨rfl, Below.refl _ _⟩

theorem tst_1 (x : Nat) (hx : x < 18446744073709551616) : (bits BinOp.and IntKind.u64 (x : Int) 1 == 0) = decide (x % 2 = 0) := by
  rw [andI_1 x hx, Bool.eq_iff_iff, beq_iff_eq, decide_eq_true_iff]; omega

set_option maxHeartbeats 1000000 in
theorem change_yes (l : Int) (x y : Nat) (w : World) (hx : x < 18446744073709551616) (hy : y < 18446744073709551616) (h : lvlB l = true) :
    Calls Try.prog 22 #[.int .i64 l, .int .u64 x, .int .u64 y] w fun e w' => e = .returned (.tuple #[.bool (changeB l x y), .nilIface]) ∧ Below w.heap.size w w' := by
  have t1 := tst_1 x hx
  have t2 := tst_1 y hy
  unfold changeB
  cases hp : plainB x y
  · rw [Bool.false_or]
    simp only [plainB, decide_eq_false_iff_not] at hp
    have e0 : ((x : Int) == (y : Int)) = false := by rw [beq_eq_false_iff_ne]; omega
    have e1 : x % 2 = 1 := by omega
    have e2 : y % 2 = 1 := by omega
    rw [e1] at t1
    rw [e2] at t2
    rw [decide_eq_false (by decide)] at t1 t2
    have s1 := fun w => says_any l x w hx
    have s2 := fun w => says_any l y w hy
    have s3 := alike_any (saysD l x) (saysD l y)
    obtain ⟨a, ha⟩ : ∃ a, a = saysD l x := ⟨_, rfl⟩
    obtain ⟨b, hb⟩ : ∃ b, b = saysD l y := ⟨_, rfl⟩
    rw [← ha] at s1 s3 ⊢
    rw [← hb] at s2 s3 ⊢
    clear ha hb hp e1 e2
    go_enter Try.func22, Try.ntmps22
    go_wp2_with (go_at_call 34; refine (mayLevel_any _ _).mono ?_; rintro e w1 ⟨rfl, hw⟩; obtain rfl := hw.symm; clear hw)
    refine (s1 _).mono ?_
    rintro e w1 ⟨rfl, hb⟩
    have L1 := below_call (Below.refl w.heap.size w) (Nat.le_refl _) hb
    clear hb
    go_wp2_with fail
    refine (s2 _).mono ?_
    rintro e w2 ⟨rfl, hb⟩
    have L2 := below_call L1 L1.size hb
    clear hb L1
    go_wp2_with fail
    refine (s3 _).mono ?_
    rintro e w3 ⟨rfl, hb⟩
    have L3 := below_call L2 L2.size hb
    clear hb L2
    go_wp2
    go_ret2
    exact ⟨rfl, L3⟩
  · rw [Bool.true_or]
    simp only [plainB, decide_eq_true_eq] at hp
    have hc : (((x : Int) == (y : Int)) = true) ∨ (((x : Int) == (y : Int)) = false ∧ decide (x % 2 = 0) = true) ∨ (((x : Int) == (y : Int)) = false ∧ decide (x % 2 = 0) = false ∧ decide (y % 2 = 0) = true) := by
      simp only [beq_iff_eq, beq_eq_false_iff_ne, decide_eq_true_eq, decide_eq_false_iff_not, ne_eq]
      omega
    clear hp
    rcases hc with hc | ⟨hc1, hc2⟩ | ⟨hc1, hc2, hc3⟩
    all_goals
      go_enter Try.func22, Try.ntmps22
      go_wp2_with (go_at_call 34; refine (mayLevel_any _ _).mono ?_; rintro e w1 ⟨rfl, hw⟩; obtain rfl := hw.symm; clear hw)
      go_ret2
      exact ⟨rfl, Below.refl _ _⟩

theorem alike_comm (a b : Dsc) : alikeB a b = alikeB b a := by
  unfold alikeB
  have e1 : decide (a.kind ≠ 5 ∧ b.kind ≠ 5) = decide (b.kind ≠ 5 ∧ a.kind ≠ 5) := by
    rw [Bool.eq_iff_iff, decide_eq_true_iff, decide_eq_true_iff]; exact And.comm
  have e2 : eqD (mixD a b) b = eqD (mixD b a) a := by
    unfold eqD mixD
    simp only [beq_self_eq_true, Bool.true_and, Bool.and_true]
    rw [show (a.kind == b.kind) = (b.kind == a.kind) from Bool.beq_comm .., show (a.frame == b.frame) = (b.frame == a.frame) from Bool.beq_comm ..]
    cases a.wr <;> cases b.wr <;> cases a.ex <;> cases b.ex <;> cases a.fo <;> cases b.fo <;> rfl
  rw [e1, e2]
theorem change_comm (l : Int) (x y : Nat) : changeB l x y = changeB l y x := by
  unfold changeB
  rw [alike_comm]
  congr 1
  unfold plainB
  rw [Bool.eq_iff_iff, decide_eq_true_iff, decide_eq_true_iff]
  omega
theorem change_zero (l : Int) (x : Nat) : changeB l x 0 = true := by
  unfold changeB plainB
  rw [decide_eq_true (Or.inr (Or.inr rfl)), Bool.true_or]
theorem change_from0 (l : Int) (x : Nat) : changeB l 0 x = true := by rw [change_comm, change_zero]

end Go.Proofs.Ytjijgpdfoilijaa
