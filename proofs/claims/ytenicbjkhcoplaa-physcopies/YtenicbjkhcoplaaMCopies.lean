/- PhysCopies: the walk. -/
import Derived.Test.YtenicbjkhcoplaaMUp
namespace Go.Proofs.Ytenicbjkhcoplaa
open Go.RowKit

def f1 (a i v : Nat) : Nat → Nat := upd (fun _ => 0) (a * 8 + i) v
def f2 (a b i v : Nat) : Nat → Nat := fun j => if j / 8 = b then f1 a i v (a * 8 + j % 8) else f1 a i v j
def f3 (a b i v w : Nat) : Nat → Nat := upd (f2 a b i v) (a * 8 + i) w
theorem f1_at (a i v : Nat) : f1 a i v (a * 8 + i) = v := by simp [f1, upd]
theorem f3_at (a b i v w : Nat) : f3 a b i v w (a * 8 + i) = w := by simp [f3, upd]
theorem f3_no (a b i v w : Nat) (h : a ≠ b) (hi : i < 8) : f3 a b i v w (b * 8 + i) = v := by
  unfold f3 f2 f1 upd
  rw [if_neg (by omega)]
  show (if (b * 8 + i) / 8 = b then if a * 8 + (b * 8 + i) % 8 = a * 8 + i then v else 0 else if b * 8 + i = a * 8 + i then v else 0) = v
  rw [if_pos (by omega), if_pos (by omega)]
theorem f3_same (a b i v w : Nat) (ha : a < 4) (hb : b < 4) (hi : i < 8) : sameB 4 (f3 a b i v w) 4 (f1 a i v) = (v == w && (a == b || v == 0)) := by
  rw [Bool.eq_iff_iff, sameB_iff]
  simp only [Bool.and_eq_true, Bool.or_eq_true, beq_iff_eq, true_and]
  constructor
  · intro h
    have h1 := h (a * 8 + i) (by omega)
    rw [f3_at, f1_at] at h1
    refine ⟨h1.symm, ?_⟩
    by_cases e : a = b
    · exact Or.inl e
    · have h2 := h (b * 8 + i) (by omega)
      rw [f3_no a b i v w e hi] at h2
      refine Or.inr ?_
      unfold f1 upd at h2
      rw [if_neg (by omega)] at h2
      exact h2
  · rintro ⟨rfl, h⟩ j hj
    unfold f3 f2 f1 upd
    rcases h with rfl | rfl
    · by_cases e : j = a * 8 + i
      · rw [if_pos e, if_pos e]
      · rw [if_neg e]
        show (if j / 8 = a then if a * 8 + j % 8 = a * 8 + i then v else 0 else if j = a * 8 + i then v else 0) = if j = a * 8 + i then v else 0
        by_cases e2 : j / 8 = a
        · rw [if_pos e2, if_neg (by omega), if_neg e]
        · rw [if_neg e2]
    · simp

set_option maxRecDepth 100000 in
set_option maxHeartbeats 1000000 in
theorem copies_core (a b i v x : Nat) (w : World) (ha : a < 4) (hb : b < 4) (hi : i < 8) (a0 b0 i0 : Int) (pa : ∀ w, Calls Try.prog 11 #[.int .i64 a0, .int .i64 4] w fun e w' => e = .returned (.int .i64 a) ∧ w' = w)
    (pb : ∀ w, Calls Try.prog 11 #[.int .i64 b0, .int .i64 4] w fun e w' => e = .returned (.int .i64 b) ∧ w' = w) (pi : ∀ w, Calls Try.prog 11 #[.int .i64 i0, .int .i64 8] w fun e w' => e = .returned (.int .i64 i) ∧ w' = w) :
    Calls Try.prog 5 #[.int .i64 a0, .int .i64 b0, .int .i64 i0, .int .u64 v, .int .u64 x] w fun e w' => e = .returned (.bool true) ∧ Below w.heap.size w w' := by
  have hS := f3_same a b i v x ha hb hi
  have hY : a ≠ b → f3 a b i v x (b * 8 + i) = v := fun h => f3_no a b i v x h hi
  have HS : Hid _ := hS
  have HY : Hid _ := hY
  clear hS hY
  go_enter Try.func5, Try.ntmps5
  go_wp2_with fail
  refine (up_any _).mono ?_
  rintro e w1 ⟨rfl, L1⟩
  go_wp2_with fail
  refine (new_yes 4 _ (by omega) (by omega)).mono ?_
  rintro e w2 ⟨bm, sm, rfl, M2, L⟩
  have L2 := below_call' L1 L
  replace M2 := M2.base L1.size
  clear L1 L
  go_wp2_with fail
  refine (pa _).mono ?_
  rintro e w3 ⟨rfl, rfl⟩
  go_wp2_with fail
  refine (pb _).mono ?_
  rintro e w3 ⟨rfl, rfl⟩
  go_wp2_with fail
  refine (pi _).mono ?_
  rintro e w3 ⟨rfl, rfl⟩
  clear pa pb pi
  go_wp2_with fail
  refine (store_mem M2 a i v ha hi).mono ?_
  rintro e w3 ⟨rfl, M3, G⟩
  replace M3 : Mem w.heap.size w3 bm sm 4 (f1 a i v) := M3
  have L3 := below_row L2 L2.size G M2.hs
  clear M2 L2 G
  go_wp2_with fail
  refine (clone_any M3 (by omega) (by omega)).mono ?_
  rintro e w4 ⟨bc, sc, rfl, C4, L⟩
  have M4 := M3.below L
  have hlt := M3.lt
  have n1 : some bc ≠ some sm := fun h => by cases h; have := C4.hb; omega
  have n2 : some sc ≠ some sm := fun h => by cases h; have := C4.hs; omega
  replace C4 := C4.base L3.size
  have L4 := below_call' L3 L
  clear M3 L3 L hlt
  have s1 : sameB 4 (f1 a i v) 4 (f1 a i v) = true := (sameB_iff _ _ _ _).2 ⟨rfl, fun _ _ => rfl⟩
  have hs1 := same_any M4 C4 (by omega)
  rw [s1] at hs1
  go_wp2_with fail
  refine hs1.mono ?_
  rintro e w5 ⟨rfl, m5, hw⟩
  clear hs1
  replace M4 := M4.drewN m5
  replace C4 := C4.drewN m5
  replace L4 := below_drewN L4 m5
  rw [← hw] at M4 C4 L4
  clear hw
  have hs1 := same_any C4 M4 (by omega)
  rw [s1] at hs1
  clear s1
  go_wp2_with fail
  refine hs1.mono ?_
  rintro e w6 ⟨rfl, m6, hw⟩
  clear hs1
  replace M4 := M4.drewN m6
  replace C4 := C4.drewN m6
  replace L4 := below_drewN L4 m6
  rw [← hw] at M4 C4 L4
  clear hw
  go_wp2_with fail
  refine (same_nil M4).mono ?_
  rintro e w7 ⟨rfl, m7, hw⟩
  replace M4 := M4.drewN m7
  replace C4 := C4.drewN m7
  replace L4 := below_drewN L4 m7
  rw [← hw] at M4 C4 L4
  clear hw
  go_wp2_with fail
  refine (copy_yes M4 b a hb ha).mono ?_
  rintro e w8 ⟨rfl, M8, G⟩
  replace M8 : Mem w.heap.size w8 bm sm 4 (f2 a b i v) := M8
  have C8 := C4.kept G n1 n2
  have L8 := below_row L4 L4.size G M4.hs
  clear M4 C4 L4 G
  go_wp2_with fail
  refine (store_mem M8 a i x ha hi).mono ?_
  rintro e w9 ⟨rfl, M9, G⟩
  replace M9 : Mem w.heap.size w9 bm sm 4 (f3 a b i v x) := M9
  have C9 := C8.kept G n1 n2
  have L9 := below_row L8 L8.size G M8.hs
  clear M8 C8 L8 G
  have h1 := load_yes M9 a i ha hi
  rw [f3_at] at h1
  go_wp2_with fail
  refine h1.mono ?_
  rintro e w10 ⟨rfl, rfl⟩
  clear h1
  have h1 := load_yes M9 b i hb hi
  go_wp2_with fail
  refine h1.mono ?_
  rintro e w10 ⟨rfl, rfl⟩
  clear h1
  have h1 := load_yes C9 a i ha hi
  rw [f1_at] at h1
  go_wp2_with fail
  refine h1.mono ?_
  rintro e w10 ⟨rfl, rfl⟩
  clear h1
  have hY := HY.out
  have hS := HS.out
  clear HS HY
  have HN : Hid (∀ w, Calls Try.prog 8 #[.int .i64 3] w (NewPost w 3)) := fun w => new_yes 3 w (by omega) (by omega)
  have h3 : ∀ (g h : Nat → Nat), sameB 4 g 3 h = false := fun g h => rfl
  generalize f3 a b i v x (b * 8 + i) = y at *
  generalize f3 a b i v x = F at *
  generalize f1 a i v = F1 at *
  have hr : ∃ r : Bool, r = sameB 4 F 4 F1 ∧ ((r = true ∧ v = x ∧ a = b) ∨ (r = true ∧ v = x ∧ v = 0 ∧ a ≠ b ∧ y = v) ∨ (r = false ∧ v ≠ x ∧ a = b) ∨ (r = false ∧ v ≠ x ∧ a ≠ b ∧ y = v) ∨ (r = false ∧ v = x ∧ v ≠ 0 ∧ a ≠ b ∧ y = v)) := by
    refine ⟨_, rfl, ?_⟩
    rw [hS]
    by_cases h1 : a = b
    · by_cases h2 : v = x
      · exact Or.inl ⟨by simp [h1, h2], h2, h1⟩
      · exact Or.inr (Or.inr (Or.inl ⟨by simp [h2], h2, h1⟩))
    · by_cases h2 : v = x
      · by_cases h4 : v = 0
        · exact Or.inr (Or.inl ⟨by simp [h4, ← h2], h2, h4, h1, hY h1⟩)
        · exact Or.inr (Or.inr (Or.inr (Or.inr ⟨by simp [h4, h1], h2, h4, h1, hY h1⟩)))
      · exact Or.inr (Or.inr (Or.inr (Or.inl ⟨by simp [h2], h2, h1, hY h1⟩)))
  clear hY hS
  obtain ⟨r, hr, hc⟩ := hr
  have HR : Hid (r = sameB 4 F 4 F1) := hr
  clear hr
  rcases hc with ⟨rfl, rfl, rfl⟩ | ⟨rfl, rfl, rfl, h1, rfl⟩ | ⟨rfl, h2, rfl⟩ | ⟨rfl, h2, h1, rfl⟩ | ⟨rfl, rfl, h4, h1, rfl⟩
  case' inl => skip
  case' inr.inl =>
    have t1 : ¬ ((a : Int) = b) := by omega
    have t2 : ((a : Int) == b) = false := by simpa using t1
  case' inr.inr.inl =>
    have t1 : ¬ ((v : Int) = x) := by omega
    have t2 : ((v : Int) == x) = false := by simpa using t1
  case' inr.inr.inr.inl =>
    have t1 : ¬ ((a : Int) = b) := by omega
    have t2 : ((a : Int) == b) = false := by simpa using t1
    have t3 : ¬ ((y : Int) = x) := by omega
    have t4 : ((y : Int) == x) = false := by simpa using t3
  case' inr.inr.inr.inr =>
    have t1 : ¬ ((a : Int) = b) := by omega
    have t2 : ((a : Int) == b) = false := by simpa using t1
    have t3 : ¬ ((y : Int) = 0) := by omega
    have t4 : ((y : Int) == 0) = false := by simpa using t3
  all_goals
    go_wp2_with fail
    refine (HN.out _).mono ?_
    rintro e w11 ⟨b3, s3, rfl, D, L⟩
    have L11 := below_call' L9 L
    have M11 := M9.below L
    have C11 := C9.below L
    clear L9 L M9 C9 HN
    have hs1 := same_any M11 C11 (by omega)
    rw [← HR.out] at hs1
    go_wp2_with fail
    refine hs1.mono ?_
    rintro e w12 ⟨rfl, m12, hw⟩
    clear hs1
    replace C11 := C11.drewN m12
    replace D := D.drewN m12
    replace L11 := below_drewN L11 m12
    rw [← hw] at C11 L11 D
    clear hw M11 HR
    have hs1 := same_any C11 D (by omega)
    rw [h3] at hs1
    clear h3
    go_wp2_with fail
    refine hs1.mono ?_
    rintro e w13 ⟨rfl, m13, hw⟩
    clear hs1 C11 D
    replace L11 := below_drewN L11 m13
    rw [← hw] at L11
    clear hw
    go_wp2
    go_ret
    exact ⟨rfl, L11⟩

theorem walk_physCopies (a b i v x : Int) (w : World) (ha : -9223372036854775808 ≤ a ∧ a ≤ 9223372036854775807) (hb : -9223372036854775808 ≤ b ∧ b ≤ 9223372036854775807) (hi : -9223372036854775808 ≤ i ∧ i ≤ 9223372036854775807)
    (hv : 0 ≤ v ∧ v ≤ 18446744073709551615) (hx : 0 ≤ x ∧ x ≤ 18446744073709551615) :
    Calls Try.prog 5 #[.int .i64 a, .int .i64 b, .int .i64 i, .int .u64 v, .int .u64 x] w fun e w' => e = .returned (.bool true) ∧ Below w.heap.size w w' := by
  obtain ⟨v, rfl⟩ : ∃ n : Nat, v = n := ⟨v.toNat, by omega⟩
  obtain ⟨x, rfl⟩ : ∃ n : Nat, x = n := ⟨x.toNat, by omega⟩
  exact copies_core (pickN a 4) (pickN b 4) (pickN i 8) v x w (pickN_lt _ _ (by omega)) (pickN_lt _ _ (by omega)) (pickN_lt _ _ (by omega)) a b i
    (fun w => pick_any a 4 w ha.1 ha.2 (by omega) (by omega)) (fun w => pick_any b 4 w hb.1 hb.2 (by omega) (by omega)) (fun w => pick_any i 8 w hi.1 hi.2 (by omega) (by omega))
end Go.Proofs.Ytenicbjkhcoplaa
