/- What pte.says and pte.Decode answer, for all arguments. -/
import Derived.Test.YtjijgpdfoilijaaPLeaf
import Derived.Handy
import Derived.Deep.RegionWith
namespace Go.Proofs.Ytjijgpdfoilijaa
open Go.RowKit

/-- A descriptor as a value. -/
def dv (d : Dsc) : Value := .agg #[.int .i64 d.kind, .int .i64 d.frame, .bool d.wr, .bool d.ex, .bool d.sn, .bool d.fo, .int .i64 d.so]

theorem mayN_lt (k : Int) : mayN k < 18446744073709551616 := by
  unfold mayN
  repeat' split
  all_goals decide
theorem andNotI (k : Int) (x : Nat) (hx : x < 18446744073709551616) : bits BinOp.andNot IntKind.u64 (x : Int) ((mayN k : Nat) : Int) = ((restN k x : Nat) : Int) := by
  rw [u64_andNot_nat x _ hx (mayN_lt k), rest_mask k x hx]
theorem andI_7 (x : Nat) (hx : x < 18446744073709551616) : bits BinOp.and IntKind.u64 (x : Int) 128 = ((w7 x * 128 : Nat) : Int) := by
  rw [show (128 : Int) = ((128 : Nat) : Int) from rfl, u64_and_nat _ _ hx (by decide), and_7]
theorem andI_10 (x : Nat) (hx : x < 18446744073709551616) : bits BinOp.and IntKind.u64 (x : Int) 1024 = ((w10 x * 1024 : Nat) : Int) := by
  rw [show (1024 : Int) = ((1024 : Nat) : Int) from rfl, u64_and_nat _ _ hx (by decide), and_10]
theorem andI_52 (x : Nat) (hx : x < 18446744073709551616) : bits BinOp.and IntKind.u64 (x : Int) 4503599627370496 = ((w52 x * 4503599627370496 : Nat) : Int) := by
  rw [show (4503599627370496 : Int) = ((4503599627370496 : Nat) : Int) from rfl, u64_and_nat _ _ hx (by decide), and_52]
theorem andI_54 (x : Nat) (hx : x < 18446744073709551616) : bits BinOp.and IntKind.u64 (x : Int) 18014398509481984 = ((w54 x * 18014398509481984 : Nat) : Int) := by
  rw [show (18014398509481984 : Int) = ((18014398509481984 : Nat) : Int) from rfl, u64_and_nat _ _ hx (by decide), and_54]

theorem okN_false {l : Int} {x : Nat} (h : okN l x = false) : kindN l x = 5 ∨ (kindN l x ≠ 5 ∧ restN (kindN l x) x ≠ mustN (kindN l x)) ∨ (kindN l x ≠ 5 ∧ restN (kindN l x) x = mustN (kindN l x) ∧ frameB (kindN l x) (wF x) = false) := by
  by_cases h1 : kindN l x = 5
  · exact Or.inl h1
  by_cases h2 : restN (kindN l x) x = mustN (kindN l x)
  · refine Or.inr (Or.inr ⟨h1, h2, ?_⟩)
    unfold okN at h
    rw [decide_eq_true ⟨h1, h2⟩, Bool.true_and] at h
    exact h
  · exact Or.inr (Or.inl ⟨h1, h2⟩)

set_option maxHeartbeats 1000000 in
theorem says_no (l : Int) (x : Nat) (w : World) (hx : x < 18446744073709551616) (h : okN l x = false) :
    Calls Try.prog 36 #[.int .i64 l, .int .u64 x] w fun e w' => e = .returned (dv badD) ∧ Below w.heap.size w w' := by
  have hF := wF_lt x
  rcases okN_false h with h1 | ⟨h1, h2⟩ | ⟨h1, h2, h3⟩
  · have hk := kindOf_any l x
    rw [h1] at hk
    clear h h1
    go_enter Try.func36, Try.ntmps36
    go_wp2_with (first
      | (go_at_call 40; refine (hk _ hx).mono ?_; rintro e w1 ⟨rfl, hw⟩; obtain rfl := hw.symm; clear hw)
      | (go_at_call 41; refine (shape_any _ _).mono ?_; rintro e w1 ⟨rfl, hw⟩; obtain rfl := hw.symm; clear hw))
    exact bodyPost_ret (v := dv badD) (by simp [results, Try.results36, go_sem, dv, badD]) rfl ⟨rfl, (Below.refl _ _).alloc (Nat.le_refl _) _⟩
  · have ha := andNotI (kindN l x) x hx
    obtain ⟨k, hk⟩ : ∃ k, k = kindN l x := ⟨_, rfl⟩
    have hkk := kindOf_any l x
    rw [← hk] at hkk ha h1 h2
    have h1' : (k == 5) = false := by simpa using h1
    have h2' : (((restN k x : Nat) : Int) != ((mustN k : Nat) : Int)) = true := by rw [bne_iff_ne]; intro hh; exact h2 (by omega)
    clear hk h1 h2
    go_enter Try.func36, Try.ntmps36
    go_wp2_with (first
      | (go_at_call 40; refine (hkk _ hx).mono ?_; rintro e w1 ⟨rfl, hw⟩; obtain rfl := hw.symm; clear hw)
      | (go_at_call 41; refine (shape_any _ _).mono ?_; rintro e w1 ⟨rfl, hw⟩; obtain rfl := hw.symm; clear hw))
    exact bodyPost_ret (v := dv badD) (by simp [results, Try.results36, go_sem, dv, badD]) rfl ⟨rfl, (Below.refl _ _).alloc (Nat.le_refl _) _⟩
  · have ha := andNotI (kindN l x) x hx
    obtain ⟨k, hk⟩ : ∃ k, k = kindN l x := ⟨_, rfl⟩
    have hkk := kindOf_any l x
    rw [← hk] at hkk ha h1 h2 h3
    have h1' : (k == 5) = false := by simpa using h1
    rw [h2] at ha
    clear hk h1 h2
    go_enter Try.func36, Try.ntmps36
    go_wp2_with (first
      | (go_at_call 40; refine (hkk _ hx).mono ?_; rintro e w1 ⟨rfl, hw⟩; obtain rfl := hw.symm; clear hw)
      | (go_at_call 41; refine (shape_any _ _).mono ?_; rintro e w1 ⟨rfl, hw⟩; obtain rfl := hw.symm; clear hw)
      | (go_at_call 43; refine (frame_any _ _ hx).mono ?_; rintro e w1 ⟨rfl, d1, rfl⟩)
      | (go_at_call 42; refine (mayFrame_any _ _ _ hF).mono ?_; rintro e w1 ⟨rfl, hw⟩; obtain rfl := hw.symm; clear hw))
    refine bodyPost_ret (v := dv badD) ?_ rfl ⟨rfl, ?_⟩
    · simp [results, Try.results36, go_sem, dv, badD]
    · repeat' (first | (with_reducible exact Below.refl _ _) | (with_reducible refine Below.setCell ?_ ?_ _) | (with_reducible refine below_drewN ?_ _) | (with_reducible refine Below.alloc ?_ ?_ _) | (with_reducible exact Nat.le_refl _))

theorem tst_7 (x : Nat) (hx : x < 18446744073709551616) : (bits BinOp.and IntKind.u64 (x : Int) 128 == 0) = decide (w7 x = 0) := by
  rw [andI_7 x hx, Bool.eq_iff_iff, beq_iff_eq, decide_eq_true_iff]; omega
theorem tst_10 (x : Nat) (hx : x < 18446744073709551616) : (bits BinOp.and IntKind.u64 (x : Int) 1024 != 0) = decide (w10 x ≠ 0) := by
  rw [andI_10 x hx, Bool.eq_iff_iff, bne_iff_ne, decide_eq_true_iff]; omega
theorem tst_52 (x : Nat) (hx : x < 18446744073709551616) : (bits BinOp.and IntKind.u64 (x : Int) 4503599627370496 != 0) = decide (w52 x ≠ 0) := by
  rw [andI_52 x hx, Bool.eq_iff_iff, bne_iff_ne, decide_eq_true_iff]; omega
theorem tst_54 (x : Nat) (hx : x < 18446744073709551616) : (bits BinOp.and IntKind.u64 (x : Int) 18014398509481984 == 0) = decide (w54 x = 0) := by
  rw [andI_54 x hx, Bool.eq_iff_iff, beq_iff_eq, decide_eq_true_iff]; omega

set_option maxHeartbeats 1000000 in
theorem says_yes (l : Int) (x : Nat) (w : World) (hx : x < 18446744073709551616) (h : okN l x = true) :
    Calls Try.prog 36 #[.int .i64 l, .int .u64 x] w fun e w' => e = .returned (dv (tellD l x)) ∧ Below w.heap.size w w' := by
  have hF := wF_lt x
  have hS := wS_lt x
  obtain ⟨h1, h2, h3, h4⟩ := okN_true h
  have hfr : frameB (kindN l x) (wF x) = true := by unfold frameB; rw [decide_eq_true_iff]; exact ⟨h3, h4⟩
  have ha := andNotI (kindN l x) x hx
  have hkk := kindOf_any l x
  unfold tellD
  obtain ⟨k, hk⟩ : ∃ k, k = kindN l x := ⟨_, rfl⟩
  rw [← hk] at hkk ha h1 h2 hfr ⊢
  have h1' : (k == 5) = false := by simpa using h1
  rw [h2] at ha
  clear hk h1 h2 h3 h
  cases hr : rightsB k
  · go_enter Try.func36, Try.ntmps36
    go_wp2_with (first
      | (go_at_call 40; refine (hkk _ hx).mono ?_; rintro e w1 ⟨rfl, hw⟩; obtain rfl := hw.symm; clear hw)
      | (go_at_call 41; refine (shape_any _ _).mono ?_; rintro e w1 ⟨rfl, hw⟩; obtain rfl := hw.symm; clear hw)
      | (go_at_call 43; refine (frame_any _ _ hx).mono ?_; rintro e w1 ⟨rfl, d1, rfl⟩)
      | (go_at_call 42; refine (mayFrame_any _ _ _ hF).mono ?_; rintro e w1 ⟨rfl, hw⟩; obtain rfl := hw.symm; clear hw)
      | (go_at_call 44; refine (hasRights_any _ _).mono ?_; rintro e w1 ⟨rfl, hw⟩; obtain rfl := hw.symm; clear hw))
    refine bodyPost_ret (v := dv ⟨k, wF x, false, false, false, false, 0⟩) ?_ rfl ⟨rfl, ?_⟩
    · simp [results, Try.results36, go_sem, dv]
    · repeat' (first | (with_reducible exact Below.refl _ _) | (with_reducible refine Below.setCell ?_ ?_ _) | (with_reducible refine below_drewN ?_ _) | (with_reducible refine Below.alloc ?_ ?_ _) | (with_reducible exact Nat.le_refl _))
      all_goals go_size
  · have t7 := tst_7 x hx
    have t10 := tst_10 x hx
    have t52 := tst_52 x hx
    have t54 := tst_54 x hx
    go_enter Try.func36, Try.ntmps36
    go_wp2_with (first
      | (go_at_call 40; refine (hkk _ hx).mono ?_; rintro e w1 ⟨rfl, hw⟩; obtain rfl := hw.symm; clear hw)
      | (go_at_call 41; refine (shape_any _ _).mono ?_; rintro e w1 ⟨rfl, hw⟩; obtain rfl := hw.symm; clear hw)
      | (go_at_call_of 43 (Value.int .i64 12); refine (frame_any _ _ hx).mono ?_; rintro e w1 ⟨rfl, d1, rfl⟩)
      | (go_at_call_of 43 (Value.int .i64 55); refine (soft_any _ _ hx).mono ?_; rintro e w1 ⟨rfl, d2, rfl⟩)
      | (go_at_call 42; refine (mayFrame_any _ _ _ hF).mono ?_; rintro e w1 ⟨rfl, hw⟩; obtain rfl := hw.symm; clear hw)
      | (go_at_call 44; refine (hasRights_any _ _).mono ?_; rintro e w1 ⟨rfl, hw⟩; obtain rfl := hw.symm; clear hw))
    refine bodyPost_ret (v := dv ⟨k, wF x, decide (w7 x = 0), decide (w54 x = 0), !decide (w10 x = 0), !decide (w52 x = 0), wS x⟩) ?_ rfl ⟨rfl, ?_⟩
    · simp [results, Try.results36, go_sem, dv]
    · repeat' (first | (with_reducible exact Below.refl _ _) | (with_reducible refine Below.setCell ?_ ?_ _) | (with_reducible refine below_drewN ?_ _) | (with_reducible refine Below.alloc ?_ ?_ _) | (with_reducible exact Nat.le_refl _))
      all_goals go_size

theorem says_any (l : Int) (x : Nat) (w : World) (hx : x < 18446744073709551616) :
    Calls Try.prog 36 #[.int .i64 l, .int .u64 x] w fun e w' => e = .returned (dv (saysD l x)) ∧ Below w.heap.size w w' := by
  unfold saysD
  cases h : okN l x
  · exact says_no l x w hx h
  · exact says_yes l x w hx h

set_option maxHeartbeats 1000000 in
theorem decode_no (l : Int) (x : Nat) (w : World) (h : lvlB l = false) :
    Calls Try.prog 45 #[.int .i64 l, .int .u64 x] w fun e w' => e = .returned (.tuple #[dv nilD, .iface 49 (.int .i64 1)]) ∧ Below w.heap.size w w' := by
  go_enter Try.func45, Try.ntmps45
  go_wp2_with (go_at_call 34; refine (mayLevel_any _ _).mono ?_; rintro e w1 ⟨rfl, hw⟩; obtain rfl := hw.symm; clear hw)
  exact bodyPost_ret (v := .tuple #[dv nilD, .iface 49 (.int .i64 1)]) (by simp [results, Try.results45, go_sem, dv, nilD]) rfl ⟨rfl, (Below.refl _ _).alloc (Nat.le_refl _) _⟩

set_option maxHeartbeats 1000000 in
theorem decode_yes (l : Int) (x : Nat) (w : World) (hx : x < 18446744073709551616) (h : lvlB l = true) :
    Calls Try.prog 45 #[.int .i64 l, .int .u64 x] w fun e w' => e = .returned (.tuple #[dv (saysD l x), .nilIface]) ∧ Below w.heap.size w w' := by
  have hs := fun w => says_any l x w hx
  obtain ⟨d, hd⟩ : ∃ d, d = saysD l x := ⟨_, rfl⟩
  rw [← hd] at hs ⊢
  clear hd
  go_enter Try.func45, Try.ntmps45
  go_wp2_with (go_at_call 34; refine (mayLevel_any _ _).mono ?_; rintro e w1 ⟨rfl, hw⟩; obtain rfl := hw.symm; clear hw)
  refine (hs _).mono ?_
  rintro e w1 ⟨rfl, hb⟩
  obtain ⟨hc, hf⟩ := bcell hb
  have hb2 : Below w.heap.size w w1 := ((Below.refl _ _).alloc (Nat.le_refl _) _).trans (hb.mono (by simp))
  unfold dv
  go_wp2
  refine bodyPost_ret (v := .tuple #[dv d, .nilIface]) ?_ rfl ⟨rfl, ?_⟩
  · simp [results, Try.results45, go_sem, dv, hc]
  · repeat' (first | (with_reducible exact hb2) | (with_reducible refine Below.setCell ?_ ?_ _) | (with_reducible exact Nat.le_refl _))
end Go.Proofs.Ytjijgpdfoilijaa
