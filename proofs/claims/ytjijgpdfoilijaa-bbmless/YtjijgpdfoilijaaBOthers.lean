/- BbmOthers: the walk. -/
import Derived.Test.YtjijgpdfoilijaaBPure
namespace Go.Proofs.Ytjijgpdfoilijaa
open Go.RowKit

def OthersArgs (asid other lvl t p f : Int) (a b : Nat) : Array Value := #[.int .i64 asid, .int .i64 other, .int .i64 lvl, .int .i64 t, .int .i64 p, .int .i64 f, .int .u64 a, .int .u64 b]
theorem rem_even {x : Nat} (h : x % 2 = 0) : (((x : Nat) : Int) % 2 == 0) = true := by rw [beq_iff_eq]; omega
theorem rem_odd {x : Nat} (h : ¬ x % 2 = 0) : (((x : Nat) : Int) % 2 == 0) = false := by rw [beq_eq_false_iff_ne]; omega

set_option maxRecDepth 100000 in
set_option maxHeartbeats 4000000 in
theorem others_no (asid other lvl t p f : Int) (a b : Nat) (w : World)
    (h : mayW asid lvl t p f = false ∨ (mayW asid lvl t p f = true ∧ (lvl = 0 ∨ (lvl ≠ 0 ∧ a % 2 = 0) ∨ (lvl ≠ 0 ∧ ¬ a % 2 = 0 ∧ b % 2 = 0) ∨ (lvl ≠ 0 ∧ ¬ a % 2 = 0 ∧ ¬ b % 2 = 0 ∧ asid = other)))) :
    Calls Try.prog 5 (OthersArgs asid other lvl t p f a b) w fun e w' => e = .returned (.bool true) ∧ Below w.heap.size w w' := by
  have hM := fun w => refMayW_any asid lvl t p f w
  unfold OthersArgs
  rcases h with hm | ⟨hm, h | ⟨h1, h2⟩ | ⟨h1, h2, h3⟩ | ⟨h1, h2, h3, h4⟩⟩
  · rw [hm] at hM
    go_enter Try.func5, Try.ntmps5
    go_wp2_with fail
    refine (upW_any _).mono ?_
    rintro e w1 ⟨rfl, hb1⟩
    go_wp2_with fail
    refine (oneNew hb1).mono ?_
    rintro e w2 ⟨c, m, rfl, h2⟩
    have G2 : Hid (One w w2 c m false []) := h2
    clear h2 hb1
    go_wp2_with fail
    refine (twoNew G2.out).mono ?_
    rintro e w3 ⟨c', m', rfl, h3⟩
    have G3 : Hid (Two w w3 c m false [] c' m' false []) := h3
    clear h3 G2
    go_wp2_with fail
    refine (hM _).mono ?_
    rintro e w4 ⟨rfl, hw⟩
    obtain rfl := hw.symm
    clear hw
    go_wp2
    go_ret
    exact ⟨rfl, G3.out.frame⟩
  · rw [hm] at hM
    subst h
    go_enter Try.func5, Try.ntmps5
    go_wp2_with fail
    refine (upW_any _).mono ?_
    rintro e w1 ⟨rfl, hb1⟩
    go_wp2_with fail
    refine (oneNew hb1).mono ?_
    rintro e w2 ⟨c, m, rfl, h2⟩
    have G2 : Hid (One w w2 c m false []) := h2
    clear h2 hb1
    go_wp2_with fail
    refine (twoNew G2.out).mono ?_
    rintro e w3 ⟨c', m', rfl, h3⟩
    have G3 : Hid (Two w w3 c m false [] c' m' false []) := h3
    clear h3 G2
    go_wp2_with fail
    refine (hM _).mono ?_
    rintro e w4 ⟨rfl, hw⟩
    obtain rfl := hw.symm
    clear hw
    go_wp2
    go_ret
    exact ⟨rfl, G3.out.frame⟩
  · rw [hm] at hM
    have k1 : (lvl == 0) = false := by simpa using h1
    have k2 := rem_even h2
    clear h1 h2
    go_enter Try.func5, Try.ntmps5
    go_wp2_with fail
    refine (upW_any _).mono ?_
    rintro e w1 ⟨rfl, hb1⟩
    go_wp2_with fail
    refine (oneNew hb1).mono ?_
    rintro e w2 ⟨c, m, rfl, h2⟩
    have G2 : Hid (One w w2 c m false []) := h2
    clear h2 hb1
    go_wp2_with fail
    refine (twoNew G2.out).mono ?_
    rintro e w3 ⟨c', m', rfl, h3⟩
    have G3 : Hid (Two w w3 c m false [] c' m' false []) := h3
    clear h3 G2
    go_wp2_with fail
    refine (hM _).mono ?_
    rintro e w4 ⟨rfl, hw⟩
    obtain rfl := hw.symm
    clear hw
    go_wp2
    go_ret
    exact ⟨rfl, G3.out.frame⟩
  · rw [hm] at hM
    have k1 : (lvl == 0) = false := by simpa using h1
    have k2 := rem_odd h2
    have k3 := rem_even h3
    clear h1 h2 h3
    go_enter Try.func5, Try.ntmps5
    go_wp2_with fail
    refine (upW_any _).mono ?_
    rintro e w1 ⟨rfl, hb1⟩
    go_wp2_with fail
    refine (oneNew hb1).mono ?_
    rintro e w2 ⟨c, m, rfl, h2⟩
    have G2 : Hid (One w w2 c m false []) := h2
    clear h2 hb1
    go_wp2_with fail
    refine (twoNew G2.out).mono ?_
    rintro e w3 ⟨c', m', rfl, h3⟩
    have G3 : Hid (Two w w3 c m false [] c' m' false []) := h3
    clear h3 G2
    go_wp2_with fail
    refine (hM _).mono ?_
    rintro e w4 ⟨rfl, hw⟩
    obtain rfl := hw.symm
    clear hw
    go_wp2
    go_ret
    exact ⟨rfl, G3.out.frame⟩
  · rw [hm] at hM
    have k1 : (lvl == 0) = false := by simpa using h1
    have k2 := rem_odd h2
    have k3 := rem_odd h3
    have k4 : (asid == other) = true := by simpa using h4
    clear h1 h2 h3 h4
    go_enter Try.func5, Try.ntmps5
    go_wp2_with fail
    refine (upW_any _).mono ?_
    rintro e w1 ⟨rfl, hb1⟩
    go_wp2_with fail
    refine (oneNew hb1).mono ?_
    rintro e w2 ⟨c, m, rfl, h2⟩
    have G2 : Hid (One w w2 c m false []) := h2
    clear h2 hb1
    go_wp2_with fail
    refine (twoNew G2.out).mono ?_
    rintro e w3 ⟨c', m', rfl, h3⟩
    have G3 : Hid (Two w w3 c m false [] c' m' false []) := h3
    clear h3 G2
    go_wp2_with fail
    refine (hM _).mono ?_
    rintro e w4 ⟨rfl, hw⟩
    obtain rfl := hw.symm
    clear hw
    go_wp2
    go_ret
    exact ⟨rfl, G3.out.frame⟩

set_option maxRecDepth 100000 in
set_option maxHeartbeats 4000000 in
theorem others_yes (asid other lvl t p f : Int) (a b : Nat) (w : World) (ha : a < 18446744073709551616) (hb : b < 18446744073709551616) (hm : mayW asid lvl t p f = true) (h1 : lvl ≠ 0) (h2 : ¬ a % 2 = 0) (h3 : ¬ b % 2 = 0) (h4 : asid ≠ other) :
    Calls Try.prog 5 (OthersArgs asid other lvl t p f a b) w fun e w' => e = .returned (.bool true) ∧ Below w.heap.size w w' := by
  have hM := fun w => refMayW_any asid lvl t p f w
  rw [hm] at hM
  obtain ⟨-, -, hlv, a0, a1, t0, t1, p0, p1, f0, f1⟩ := mayW_true hm
  have hva := valid_odd h2
  have HW1 : Hid (∀ (w1 : World) (c m c' m' : Nat), Two w w1 c m false [] c' m' false [] → Calls Try.prog 9 #[.pointer (some ⟨c, 0, none⟩), .int .i64 asid, .int .i64 lvl, .int .i64 t, .int .i64 p, .int .i64 f, .int .u64 a, .int .u64 0] w1 fun e w' => e = .returned .nilIface ∧ Two w w' c m false (openV asid lvl t p f a) c' m' false []) := by
    intro w1 c m c' m' h
    have := h.op fun F hF => vWrite hF asid lvl t p f a 0 ha (by decide) hm
    rwa [(v_open asid lvl t p f hva).1, (v_open asid lvl t p f hva).2] at this
  have HW2 : Hid (∀ (w1 : World) (c m c' m' : Nat) (v : View), Two w w1 c m false v c' m' false [] → Calls Try.prog 9 #[.pointer (some ⟨c', 0, none⟩), .int .i64 asid, .int .i64 lvl, .int .i64 t, .int .i64 p, .int .i64 f, .int .u64 a, .int .u64 0] w1 fun e w' => e = .returned .nilIface ∧ Two w w' c m false v c' m' false (openV asid lvl t p f a)) := by
    intro w1 c m c' m' v h
    have := h.op' fun F hF => vWrite hF asid lvl t p f a 0 ha (by decide) hm
    rwa [(v_open asid lvl t p f hva).1, (v_open asid lvl t p f hva).2] at this
  have HW3 : Hid (∀ (w1 : World) (c m c' m' : Nat) (v : View), Two w w1 c m false v c' m' false [] → Calls Try.prog 9 #[.pointer (some ⟨c', 0, none⟩), .int .i64 asid, .int .i64 lvl, .int .i64 t, .int .i64 p, .int .i64 f, .int .u64 0, .int .u64 b] w1 fun e w' => e = .returned .nilIface ∧ Two w w' c m false v c' m' false []) := by
    intro w1 c m c' m' v h
    have := h.op' fun F hF => vWrite hF asid lvl t p f 0 b (by decide) hb hm
    rwa [(v_none asid lvl t p f b).1, (v_none asid lvl t p f b).2] at this
  have HS : Hid (∀ (w1 : World) (c m c' m' : Nat) (v : View), Two w w1 c m false (openV asid lvl t p f a) c' m' false v → Calls Try.prog 10 #[.pointer (some ⟨c, 0, none⟩), .int .i64 other] w1 fun e w' => e = .returned (.tuple #[]) ∧ Two w w' c m false (openV asid lvl t p f a) c' m' false v) := by
    intro w1 c m c' m' v h
    have := h.op fun F hF => vSpace hF other
    rwa [v_space asid other lvl t p f a h4] at this
  have HT : Hid (∀ (w1 : World) (c m c' m' : Nat) (v : View) (g : Int), Two w w1 c m false (openV asid lvl t p f a) c' m' false v → Calls Try.prog 12 #[.pointer (some ⟨c, 0, none⟩), .int .i64 other, .int .i64 g] w1 fun e w' => e = .returned (.tuple #[]) ∧ Two w w' c m false (openV asid lvl t p f a) c' m' false v) := by
    intro w1 c m c' m' v g h
    have := h.op fun F hF => vTold hF other g
    rwa [v_told asid other g lvl t p f a hlv h4] at this
  have HF : Hid (∀ (w1 : World) (c m c' m' : Nat) (v : View), Two w w1 c m false v c' m' false (openV asid lvl t p f a) → Calls Try.prog 18 #[.pointer (some ⟨c', 0, none⟩), .int .i64 t] w1 fun e w' => e = .returned (.tuple #[]) ∧ Two w w' c m false v c' m' false []) := by
    intro w1 c m c' m' v h
    have := h.op' fun F hF => vForget hF t (by omega)
    rwa [openV, v_forget p0 p1] at this
  have hlen : (openV asid lvl t p f a).length = 1 := rfl
  have hmany := fun w => refMany_any lvl w hlv
  have hmb := (many_bd hlv).2
  generalize openV asid lvl t p f a = V at *
  generalize manyN lvl = n at *
  have k1 : (lvl == 0) = false := by simpa using h1
  have k2 := rem_odd h2
  have k3 := rem_odd h3
  have k4 : (asid == other) = false := by simpa using h4
  have HFB : Hid _ := And.intro f0 f1
  unfold OthersArgs
  clear h1 h2 h3 h4 ha hb hm hva a0 a1 t0 t1 p0 p1 f0 f1 hlv
  go_enter Try.func5, Try.ntmps5
  go_wp2_with fail
  refine (upW_any _).mono ?_
  rintro e w1 ⟨rfl, hb1⟩
  go_wp2_with fail
  refine (oneNew hb1).mono ?_
  rintro e w2 ⟨c, m, rfl, h2⟩
  have G2 : Hid (One w w2 c m false []) := h2
  clear h2 hb1
  go_wp2_with fail
  refine (twoNew G2.out).mono ?_
  rintro e w3 ⟨c', m', rfl, h3⟩
  have G3 : Hid (Two w w3 c m false [] c' m' false []) := h3
  clear h3 G2
  go_wp2_with fail
  refine (hM _).mono ?_
  rintro e w4 ⟨rfl, hw⟩
  obtain rfl := hw.symm
  clear hw
  go_wp2_with fail
  refine (HW1.out _ _ _ _ _ G3.out).mono ?_
  rintro e w5 ⟨rfl, h5⟩
  have G5 : Hid (Two w w5 c m false V c' m' false []) := h5
  clear h5 G3 HW1
  go_wp2_with fail
  refine (HW2.out _ _ _ _ _ _ G5.out).mono ?_
  rintro e w6 ⟨rfl, h6⟩
  have G6 : Hid (Two w w6 c m false V c' m' false V) := h6
  clear h6 G5 HW2
  go_wp2_with fail
  refine (HS.out _ _ _ _ _ _ G6.out).mono ?_
  rintro e w7 ⟨rfl, h7⟩
  have G7 : Hid (Two w w7 c m false V c' m' false V) := h7
  clear h7 G6 HS
  go_wp2_with fail
  go_loopw [21] (fun i W => ∃ k : Nat, k ≤ n ∧ i = .int .i64 k ∧ Hid (Two w W c m false V c' m' false V)) (fun i _ => n - (intOf i).toNat)
  case atStart => exact ⟨0, Nat.zero_le _, rfl, G7.out⟩
  case round =>
    obtain ⟨k, hk, rfl, G8⟩ := hrel
    by_cases hkn : k < n
    · have hkz : (k : Int) < (n : Int) := by omega
      have e1 : IntKind.i64.wrap (f + (k : Int)) = f + (k : Int) := IntWalk.i64_in _ (by have := HFB.out; omega)
      go_wp2_with (go_at_call 11; refine (hmany _).mono ?_; rintro e w8 ⟨rfl, hw⟩; obtain rfl := hw.symm; clear hw)
      refine (HT.out _ _ _ _ _ _ _ G8.out).mono ?_
      rintro e w9 ⟨rfl, h9⟩
      have G9 : Hid (Two w w9 c m false V c' m' false V) := h9
      clear h9 G8
      go_wp2
      go_roundw
      case rel => exact ⟨k + 1, by omega, by go_num, G9.out⟩
      case measure => simp [intOf]; omega
    · obtain rfl : k = n := by omega
      have hkz : ¬ (k : Int) < (k : Int) := by omega
      have q1 := G8.out.ask fun F hF => vOpen hF
      have q2 := G8.out.ask fun F hF => vBroken hF
      rw [hlen] at q1
      go_wp2_with (go_at_call 11; refine (hmany _).mono ?_; rintro e w8 ⟨rfl, hw⟩; obtain rfl := hw.symm; clear hw)
      refine q1.mono ?_
      rintro e w8 ⟨rfl, hw⟩
      obtain rfl := hw.symm
      clear hw
      go_wp2_with fail
      refine q2.mono ?_
      rintro e w8 ⟨rfl, hw⟩
      obtain rfl := hw.symm
      clear hw q1 q2
      go_wp2_with fail
      refine (HF.out _ _ _ _ _ _ G8.out).mono ?_
      rintro e w9 ⟨rfl, h9⟩
      have G9 : Hid (Two w w9 c m false V c' m' false []) := h9
      clear h9 G8 HF
      go_wp2_with fail
      refine (HW3.out _ _ _ _ _ _ G9.out).mono ?_
      rintro e w10 ⟨rfl, h10⟩
      have G10 : Hid (Two w w10 c m false V c' m' false []) := h10
      have q1 := h10.swap.ask fun F hF => vOpen hF
      have q2 := h10.swap.ask fun F hF => vBroken hF
      clear h10 G9 HW3
      go_wp2_with fail
      refine q1.mono ?_
      rintro e w8 ⟨rfl, hw⟩
      obtain rfl := hw.symm
      clear hw
      go_wp2_with fail
      refine q2.mono ?_
      rintro e w8 ⟨rfl, hw⟩
      obtain rfl := hw.symm
      clear hw
      go_wp2
      go_ret
      exact ⟨rfl, G10.out.frame⟩

theorem walk_bbmOthers (asid other lvl t p f a0 b0 : Int) (w : World) (_ : -9223372036854775808 ≤ asid ∧ asid ≤ 9223372036854775807) (_ : -9223372036854775808 ≤ other ∧ other ≤ 9223372036854775807) (_ : -9223372036854775808 ≤ lvl ∧ lvl ≤ 9223372036854775807)
    (_ : -9223372036854775808 ≤ t ∧ t ≤ 9223372036854775807) (_ : -9223372036854775808 ≤ p ∧ p ≤ 9223372036854775807) (_ : -9223372036854775808 ≤ f ∧ f ≤ 9223372036854775807) (ha0 : 0 ≤ a0 ∧ a0 ≤ 18446744073709551615) (hb0 : 0 ≤ b0 ∧ b0 ≤ 18446744073709551615) :
    Calls Try.prog 5 #[.int .i64 asid, .int .i64 other, .int .i64 lvl, .int .i64 t, .int .i64 p, .int .i64 f, .int .u64 a0, .int .u64 b0] w fun e w' => e = .returned (.bool true) ∧ Below w.heap.size w w' := by
  obtain ⟨a, rfl, ha⟩ := nat_of_u64 ha0
  obtain ⟨b, rfl, hb⟩ := nat_of_u64 hb0
  cases hm : mayW asid lvl t p f with
  | false => exact others_no asid other lvl t p f a b w (Or.inl hm)
  | true =>
    by_cases h1 : lvl = 0
    · exact others_no asid other lvl t p f a b w (Or.inr ⟨hm, Or.inl h1⟩)
    by_cases h2 : a % 2 = 0
    · exact others_no asid other lvl t p f a b w (Or.inr ⟨hm, Or.inr (Or.inl ⟨h1, h2⟩)⟩)
    by_cases h3 : b % 2 = 0
    · exact others_no asid other lvl t p f a b w (Or.inr ⟨hm, Or.inr (Or.inr (Or.inl ⟨h1, h2, h3⟩))⟩)
    by_cases h4 : asid = other
    · exact others_no asid other lvl t p f a b w (Or.inr ⟨hm, Or.inr (Or.inr (Or.inr ⟨h1, h2, h3, h4⟩))⟩)
    exact others_yes asid other lvl t p f a b w ha hb hm h1 h2 h3 h4
end Go.Proofs.Ytjijgpdfoilijaa
