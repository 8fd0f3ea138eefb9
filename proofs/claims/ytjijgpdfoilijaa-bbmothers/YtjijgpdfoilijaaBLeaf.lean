/- What the small functions of bbm answer, and those of the document's May and Many. -/
import Derived.Test.YtjijgpdfoilijaaWAlign
import Derived.Test.YtjijgpdfoilijaaPChg
namespace Go.Proofs.Ytjijgpdfoilijaa
open Go.RowKit

/-- How many pages a place of a level leads to. -/
def manyN (l : Int) : Nat := 8 ^ (3 - l).toNat
theorem lvl_cases {l : Int} (h : lvlB l = true) : l = 0 ∨ l = 1 ∨ l = 2 ∨ l = 3 := by
  obtain ⟨h0, h3⟩ := lvlB_true h
  omega
theorem many_cases {l : Int} (h : lvlB l = true) : (l = 0 ∧ manyN l = 512) ∨ (l = 1 ∧ manyN l = 64) ∨ (l = 2 ∧ manyN l = 8) ∨ (l = 3 ∧ manyN l = 1) := by
  rcases lvl_cases h with rfl | rfl | rfl | rfl <;> simp [manyN]
theorem many_bd {l : Int} (h : lvlB l = true) : 1 ≤ manyN l ∧ manyN l ≤ 512 := by
  have := many_cases h
  omega

def placeB (t p : Int) : Bool := decide (0 ≤ t ∧ t < 512 ∧ 0 ≤ p ∧ p < 8)
set_option maxHeartbeats 400000 in
theorem mayPlace_any (t p : Int) (w : World) :
    Calls Try.prog 20 #[.int .i64 t, .int .i64 p] w fun e w' => e = .returned (.bool (placeB t p)) ∧ w' = w := by
  go_enter Try.func20, Try.ntmps20
  go_wp2
  all_goals go_ret
  all_goals refine ⟨ret_bool ?_, rfl⟩
  all_goals (rw [Bool.eq_iff_iff]; simp [placeB]; try omega)

set_option maxHeartbeats 400000 in
theorem orderOf_any (l : Int) (w : World) (h : lvlB l = true) :
    Calls Try.prog 33 #[.int .i64 l] w fun e w' => e = .returned (.int .i64 ((3 - l) * 3)) ∧ w' = w := by
  obtain ⟨h0, h3⟩ := lvlB_true h
  have e1 : IntKind.i64.wrap (3 - l) = 3 - l := IntWalk.i64_in _ (by omega)
  have e2 : IntKind.i64.wrap ((3 - l) * 3) = (3 - l) * 3 := IntWalk.i64_in _ (by omega)
  go_enter Try.func33, Try.ntmps33
  go_wp2
  go_ret
  exact ⟨ret_int (by go_num), rfl⟩

set_option maxHeartbeats 400000 in
theorem down_no (n o : Int) (w : World) (h : alignB n o = false) :
    Calls Try.prog 39 #[.int .i64 n, .int .i64 o] w fun e w' => e = .returned (.tuple #[.int .i64 0, .iface 49 (.int .i64 1)]) ∧ w' = w := by
  go_enter Try.func39, Try.ntmps39
  go_wp2_with (go_at_call 46; refine (mayAlign_any _ _ _).mono ?_; rintro e w1 ⟨rfl, hw⟩; obtain rfl := hw.symm; clear hw)
  go_ret2
  exact ⟨rfl, rfl⟩

def alignedB (n o : Int) : Bool := alignB n o && (n / 2 ^ o.toNat * 2 ^ o.toNat == n)
set_option maxHeartbeats 400000 in
theorem isAligned_any (n o : Int) (w : World) :
    Calls Try.prog 32 #[.int .i64 n, .int .i64 o] w fun e w' => e = .returned (.bool (alignedB n o)) ∧ w' = w := by
  unfold alignedB
  cases h : alignB n o with
  | false =>
    have hd := fun w => down_no n o w h
    clear h
    rw [Bool.false_and]
    go_enter Try.func32, Try.ntmps32
    go_wp2_with (go_at_call 39; refine (hd _).mono ?_; rintro e w1 ⟨rfl, hw⟩; obtain rfl := hw.symm; clear hw)
    go_ret
    exact ⟨rfl, rfl⟩
  | true =>
    have hd := fun w => down_yes n o w h
    clear h
    rw [Bool.true_and]
    generalize n / 2 ^ o.toNat * 2 ^ o.toNat = d at *
    go_enter Try.func32, Try.ntmps32
    go_wp2_with (go_at_call 39; refine (hd _).mono ?_; rintro e w1 ⟨rfl, hw⟩; obtain rfl := hw.symm; clear hw)
    go_ret
    exact ⟨rfl, rfl⟩

def leadB (a l f : Int) : Bool := decide (0 ≤ a ∧ a ≤ 255) && (lvlB l && (decide (f < 4096) && alignedB f ((3 - l) * 3)))
set_option maxHeartbeats 1000000 in
theorem mayLead_any (a l f : Int) (w : World) :
    Calls Try.prog 21 #[.int .i64 a, .int .i64 l, .int .i64 f] w fun e w' => e = .returned (.bool (leadB a l f)) ∧ w' = w := by
  by_cases h1 : 0 ≤ a ∧ a ≤ 255
  · cases h2 : lvlB l with
    | true =>
      obtain ⟨l0, l3⟩ := lvlB_true h2
      obtain ⟨a0, a1⟩ := h1
      have l4 : l < 4 := by omega
      by_cases h3 : f < 4096
      · have ho := fun w => orderOf_any l w h2
        have hi := fun w => isAligned_any f ((3 - l) * 3) w
        have hL : leadB a l f = alignedB f ((3 - l) * 3) := by simp [leadB, h2, h3, a0, a1]
        rw [hL]
        generalize alignedB f ((3 - l) * 3) = r at *
        clear hL h2 l3
        go_enter Try.func21, Try.ntmps21
        go_wp2_with (first | (go_at_call 33; refine (ho _).mono ?_; rintro e w1 ⟨rfl, hw⟩; obtain rfl := hw.symm; clear hw) | (go_at_call 32; refine (hi _).mono ?_; rintro e w1 ⟨rfl, hw⟩; obtain rfl := hw.symm; clear hw))
        go_ret
        exact ⟨rfl, rfl⟩
      · have hL : leadB a l f = false := by simp [leadB, h3]
        rw [hL]
        clear hL h2 l3
        go_enter Try.func21, Try.ntmps21
        go_wp2
        go_ret
        exact ⟨rfl, rfl⟩
    | false =>
      have h3 := lvlB_false h2
      obtain ⟨a0, a1⟩ := h1
      have hL : leadB a l f = false := by simp [leadB, h2]
      rw [hL]
      clear hL h2
      by_cases l0 : 0 ≤ l
      · have l4 : ¬ l < 4 := by omega
        clear h3
        go_enter Try.func21, Try.ntmps21
        go_wp2
        go_ret
        exact ⟨rfl, rfl⟩
      · clear h3
        go_enter Try.func21, Try.ntmps21
        go_wp2
        go_ret
        exact ⟨rfl, rfl⟩
  · have hL : leadB a l f = false := by simp only [leadB, decide_eq_false h1, Bool.false_and]
    rw [hL]
    clear hL
    by_cases a0 : 0 ≤ a
    · have a1 : ¬ a ≤ 255 := by omega
      clear h1
      go_enter Try.func21, Try.ntmps21
      go_wp2
      go_ret
      exact ⟨rfl, rfl⟩
    · clear h1
      go_enter Try.func21, Try.ntmps21
      go_wp2
      go_ret
      exact ⟨rfl, rfl⟩

/-- Bit 0. -/
def validB (x : Nat) : Bool := decide (x % 2 = 1)
theorem tst_v (x : Nat) (hx : x < 18446744073709551616) : (bits BinOp.and IntKind.u64 (x : Int) 1 != 0) = validB x := by
  rw [andI_1 x hx, Bool.eq_iff_iff, bne_iff_ne]
  simp only [validB, decide_eq_true_eq]
  omega
set_option maxHeartbeats 400000 in
theorem isValid_any (x : Nat) (w : World) (hx : x < 18446744073709551616) :
    Calls Try.prog 23 #[.int .u64 x] w fun e w' => e = .returned (.bool (validB x)) ∧ w' = w := by
  have ht := tst_v x hx
  go_enter Try.func23, Try.ntmps23
  go_wp2
  go_ret
  exact ⟨ret_bool (by first | rfl | exact ht), rfl⟩

set_option maxHeartbeats 400000 in
theorem refMany_any (l : Int) (w : World) (h : lvlB l = true) :
    Calls Try.prog 11 #[.int .i64 l] w fun e w' => e = .returned (.int .i64 (manyN l)) ∧ w' = w := by
  have hl := many_cases h
  obtain ⟨l0, l3⟩ := lvlB_true h
  have HM : Hid _ := hl
  clear hl h
  go_enter Try.func11, Try.ntmps11
  go_wp2_with fail
  go_loopw [3, 4] (fun n i W => ∃ j k : Int, i = .int .i64 j ∧ n = .int .i64 k ∧ W = w ∧ Hid (l ≤ j ∧ j ≤ 3 ∧ (j = l ∧ k = 1 ∨ j = l + 1 ∧ k = 8 ∨ j = l + 2 ∧ k = 64 ∨ j = l + 3 ∧ k = 512))) (fun _ i _ => (3 - intOf i).toNat)
  case atStart => exact ⟨l, 1, rfl, rfl, rfl, by simp [Hid]; omega⟩
  case round =>
    obtain ⟨j, k, rfl, rfl, rfl, hh⟩ := hrel
    have hh' := hh.out
    have HH : Hid _ := hh'
    by_cases hj : j < 3
    · have e1 : IntKind.i64.wrap (k * 8) = k * 8 := IntWalk.i64_in _ (by omega)
      have e2 : IntKind.i64.wrap (j + 1) = j + 1 := IntWalk.i64_in _ (by omega)
      clear hh'
      go_wp2
      go_roundw
      case rel => exact ⟨j + 1, k * 8, by go_num, by go_num, by first | rfl | trivial, by have := HH.out; simp [Hid]; omega⟩
      case measure => simp [intOf]; omega
    · clear hh'
      go_wp2
      go_ret
      refine ⟨ret_int ?_, rfl⟩
      have := HH.out
      have := HM.out
      omega

/-- May a write be noted? -/
def mayW (a l t p f : Int) : Bool := placeB t p && leadB a l f
theorem mayW_true {a l t p f : Int} (h : mayW a l t p f = true) : placeB t p = true ∧ leadB a l f = true ∧ lvlB l = true ∧ 0 ≤ a ∧ a ≤ 255 ∧ 0 ≤ t ∧ t < 512 ∧ 0 ≤ p ∧ p < 8 ∧ 0 ≤ f ∧ f < 4096 := by
  simp only [mayW, Bool.and_eq_true] at h
  obtain ⟨h1, h2⟩ := h
  have h1' := h1
  have h2' := h2
  simp only [placeB, decide_eq_true_eq] at h1
  simp only [leadB, Bool.and_eq_true, decide_eq_true_eq, alignedB, alignB] at h2
  exact ⟨h1', h2', h2.2.1, h2.1.1, h2.1.2, h1.1, h1.2.1, h1.2.2.1, h1.2.2.2, h2.2.2.2.1.1, h2.2.2.1⟩
theorem aligned_many {l f : Int} (h : lvlB l = true) (h0 : 0 ≤ f) (h1 : f < 4096) : alignedB f ((3 - l) * 3) = (f.tmod (manyN l) == 0) := by
  have ha : alignB f ((3 - l) * 3) = true := by
    obtain ⟨l0, l3⟩ := lvlB_true h
    simp only [alignB, decide_eq_true_eq]
    omega
  rw [alignedB, ha, Bool.true_and, Int.tmod_eq_emod_of_nonneg h0, Bool.eq_iff_iff, beq_iff_eq, beq_iff_eq]
  rcases lvl_cases h with rfl | rfl | rfl | rfl <;> simp [manyN] <;> omega
theorem mayW_false {a l t p f : Int} (h : ¬ (0 ≤ a ∧ a ≤ 255 ∧ 0 ≤ l ∧ l ≤ 3 ∧ 0 ≤ t ∧ t < 512 ∧ 0 ≤ p ∧ p ≤ 7 ∧ 0 ≤ f ∧ f ≤ 4095)) : mayW a l t p f = false := by
  rw [Bool.eq_false_iff]
  intro e
  obtain ⟨_, _, h3, h4⟩ := mayW_true e
  obtain ⟨l0, l3⟩ := lvlB_true h3
  exact h (by omega)
set_option maxHeartbeats 2000000 in
theorem refMayW_any (a l t p f : Int) (w : World) :
    Calls Try.prog 8 #[.int .i64 a, .int .i64 l, .int .i64 t, .int .i64 p, .int .i64 f] w fun e w' => e = .returned (.bool (mayW a l t p f)) ∧ w' = w := by
  by_cases h : 0 ≤ a ∧ a ≤ 255 ∧ 0 ≤ l ∧ l ≤ 3 ∧ 0 ≤ t ∧ t < 512 ∧ 0 ≤ p ∧ p ≤ 7 ∧ 0 ≤ f ∧ f ≤ 4095
  · obtain ⟨a0, a1, l0, l1, t0, t1, p0, p1, f0, f1⟩ := h
    have hl : lvlB l = true := by simp [lvlB, l0, l1]
    have hm := fun w => refMany_any l w hl
    have hL : mayW a l t p f = (f.tmod (manyN l) == 0) := by
      rw [← aligned_many hl f0 (by omega)]
      simp only [mayW, placeB, leadB, hl, Bool.true_and]
      rw [decide_eq_true (by omega), decide_eq_true (by omega), decide_eq_true (by omega)]
      simp
    have hz : ¬ ((manyN l : Nat) : Int) = 0 := by have := (many_bd hl).1; omega
    have hb := (many_bd hl).2
    rw [hL]
    generalize manyN l = m at *
    have e1 : IntKind.i64.wrap (f.tmod (m : Int)) = f.tmod (m : Int) := IntWalk.i64_in _ (by rw [Int.tmod_eq_emod_of_nonneg f0]; have := Int.emod_nonneg f hz; have := Int.emod_lt_of_pos f (show (0 : Int) < (m : Int) by omega); omega)
    have a0' : ¬ a < 0 := by omega
    have a1' : ¬ 255 < a := by omega
    have l0' : ¬ l < 0 := by omega
    have l1' : ¬ 3 < l := by omega
    have t0' : ¬ t < 0 := by omega
    have t1' : ¬ 512 ≤ t := by omega
    have p0' : ¬ p < 0 := by omega
    have p1' : ¬ 7 < p := by omega
    have f0' : ¬ f < 0 := by omega
    have f1' : ¬ 4095 < f := by omega
    clear hL hl a0 a1 l0 l1 t0 t1 p0 p1 f1 hb
    go_enter Try.func8, Try.ntmps8
    go_wp2_with (go_at_call 11; refine (hm _).mono ?_; rintro e w1 ⟨rfl, hw⟩; obtain rfl := hw.symm; clear hw)
    go_ret
    refine ⟨ret_bool ?_, rfl⟩
    rw [Int.tmod_eq_emod_of_nonneg f0]
  · rw [mayW_false h]
    have hc : (a < 0 ∨ 255 < a) ∨ (¬ a < 0 ∧ ¬ 255 < a ∧ (l < 0 ∨ 3 < l)) ∨ (¬ a < 0 ∧ ¬ 255 < a ∧ ¬ l < 0 ∧ ¬ 3 < l ∧ (t < 0 ∨ 512 ≤ t)) ∨ (¬ a < 0 ∧ ¬ 255 < a ∧ ¬ l < 0 ∧ ¬ 3 < l ∧ ¬ t < 0 ∧ ¬ 512 ≤ t ∧ (p < 0 ∨ 7 < p)) ∨ (¬ a < 0 ∧ ¬ 255 < a ∧ ¬ l < 0 ∧ ¬ 3 < l ∧ ¬ t < 0 ∧ ¬ 512 ≤ t ∧ ¬ p < 0 ∧ ¬ 7 < p ∧ (f < 0 ∨ 4095 < f)) := by omega
    clear h
    rcases hc with h | ⟨c1, c2, h⟩ | ⟨c1, c2, c3, c4, h⟩ | ⟨c1, c2, c3, c4, c5, c6, h⟩ | ⟨c1, c2, c3, c4, c5, c6, c7, c8, h⟩
    all_goals
      rcases h with h | h
      all_goals
        go_enter Try.func8, Try.ntmps8
        go_wp2
        all_goals
          go_ret
          exact ⟨rfl, rfl⟩
end Go.Proofs.Ytjijgpdfoilijaa
