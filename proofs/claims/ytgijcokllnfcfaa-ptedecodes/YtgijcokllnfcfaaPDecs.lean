/- PteDecodes and PteChanges answer true for all arguments. -/
import Derived.Test.YtgijcokllnfcfaaPRefDec
import Derived.Test.YtgijcokllnfcfaaPChg
namespace Go.Proofs.Ytgijcokllnfcfaa
open Go.RowKit

theorem Box.drew {w : World} {b : Nat} {d : Dsc} (h : Box w b d) : Box w.drew b d := h

theorem refDecode_any (l : Int) (x : Nat) (w : World) (hx : x < 18446744073709551616) (hl : lvlB l = true) :
    Calls Try.prog 12 #[.int .i64 l, .int .u64 x] w fun e w' => e = .returned (dv (saysD l x)) ∧ Below w.heap.size w w' := by
  obtain ⟨h0, h3⟩ := lvlB_true hl
  by_cases h : wF x < 512
  · exact refDecode_loop l x w hx h h0 h3
  · rw [says_big (by omega)]
    exact refDecode_big l x w hx (by omega)

set_option maxHeartbeats 1000000 in
theorem decodes_no (l : Int) (x : Nat) (w : World) (hl : lvlB l = false) :
    Calls Try.prog 3 #[.int .i64 l, .int .u64 x] w fun e w' => e = .returned (.bool true) ∧ Below w.heap.size w w' := by
  have hc : l < 0 ∨ (¬ l < 0 ∧ 3 < l) := by have := lvlB_false hl; omega
  have hD := fun w => decode_no l x w hl
  have hq := eq_err 1
  unfold dv nilD at *
  rcases hc with hc | ⟨hc, hc2⟩
  all_goals
    go_enter Try.func3, Try.ntmps3
    go_wp2_with fail
    refine (up_any _).mono ?_
    rintro e w1 ⟨rfl, hb⟩
    have L1 := below_call (Below.refl w.heap.size w) (Nat.le_refl _) hb
    clear hb
    go_wp2_with fail
    refine (hD _).mono ?_
    rintro e w2 ⟨rfl, hb⟩
    have L2 := below_call L1 L1.size hb
    clear hb L1 hD
    go_wp2
    go_ret
    exact ⟨rfl, L2.alloc L2.size _⟩

set_option maxHeartbeats 1000000 in
theorem decodes_yes (l : Int) (x : Nat) (w : World) (hx : x < 18446744073709551616) (hl : lvlB l = true) :
    Calls Try.prog 3 #[.int .i64 l, .int .u64 x] w fun e w' => e = .returned (.bool true) ∧ Below w.heap.size w w' := by
  obtain ⟨h0, h3⟩ := lvlB_true hl
  have hD := fun w => decode_yes l x w hx hl
  have hR := fun w => refDecode_any l x w hx hl
  have hq := eql_dsc (saysD l x) (saysD l x)
  rw [eqD_iff.2 rfl] at hq
  obtain ⟨d, hd⟩ : ∃ d, d = saysD l x := ⟨_, rfl⟩
  rw [← hd] at hD hR hq
  clear hd hl
  unfold dv at *
  go_enter Try.func3, Try.ntmps3
  go_wp2_with fail
  refine (up_any _).mono ?_
  rintro e w1 ⟨rfl, hb⟩
  have L1 := below_call (Below.refl w.heap.size w) (Nat.le_refl _) hb
  clear hb
  go_wp2_with fail
  refine (hD _).mono ?_
  rintro e w2 ⟨rfl, hb⟩
  have L2 := below_call L1 L1.size hb
  clear hb L1 hD
  go_wp2
  go_region_held3 (fun w' => w'.cell? ⟨w2.heap.size, 0, none⟩ = some (.int .i64 d.kind) ∧ w'.cell? ⟨w2.heap.size, 1, none⟩ = some (.int .i64 d.frame) ∧ w'.cell? ⟨w2.heap.size, 2, none⟩ = some (.bool d.wr) ∧ w'.cell? ⟨w2.heap.size, 3, none⟩ = some (.bool d.ex) ∧ w'.cell? ⟨w2.heap.size, 4, none⟩ = some (.bool d.sn) ∧ w'.cell? ⟨w2.heap.size, 5, none⟩ = some (.bool d.fo) ∧ w'.cell? ⟨w2.heap.size, 6, none⟩ = some (.int .i64 d.so)) (go_keep) (first | (go_at_call 12; refine (hR _).mono ?_; rintro e w3 ⟨rfl, hb⟩; have B3 := (Box.new w2 d).drew.below hb; obtain ⟨-, k0, k1, k2, k3, k4, k5, k6⟩ := B3.rules))
  have L3 : Below w.heap.size w w3 := (L2.alloc L2.size _).drew.trans (hb.mono (by have := L2.size; simp; omega))
  go_wp2
  go_ret
  exact ⟨rfl, L3⟩

theorem walk_pteDecodes (l x : Int) (w : World) (_hl : -9223372036854775808 ≤ l ∧ l ≤ 9223372036854775807) (hx : 0 ≤ x ∧ x ≤ 18446744073709551615) :
    Calls Try.prog 3 #[.int .i64 l, .int .u64 x] w fun e w' => e = .returned (.bool true) ∧ Below w.heap.size w w' := by
  obtain ⟨x, rfl⟩ := Int.eq_ofNat_of_zero_le hx.1
  cases hl : lvlB l
  · exact decodes_no l x w hl
  · exact decodes_yes l x w (by omega) hl

theorem change_ref (l : Int) (x y : Nat) : changeB l x y = (plainB x y || (eqD (mixD (saysD l x) (saysD l y)) (saysD l y) && decide ((saysD l x).kind ≠ 5))) := by
  unfold changeB alikeB
  generalize saysD l x = a
  generalize saysD l y = b
  congr 1
  rw [Bool.eq_iff_iff, Bool.and_eq_true, Bool.and_eq_true, decide_eq_true_iff, decide_eq_true_iff, eqD_iff]
  constructor
  · rintro ⟨⟨h1, h2⟩, h3⟩; exact ⟨h3, h1⟩
  · rintro ⟨h3, h1⟩
    have : (mixD a b).kind = b.kind := by rw [h3]
    exact ⟨⟨h1, fun h => h1 (by rw [← h, ← this]; rfl)⟩, h3⟩

theorem rem2 (x : Nat) : (((x : Int) % 2) == 0) = decide (x % 2 = 0) := by
  rw [Bool.eq_iff_iff, beq_iff_eq, decide_eq_true_iff]; omega

set_option maxHeartbeats 1000000 in
theorem refChange_any (l : Int) (x y : Nat) (w : World) (hx : x < 18446744073709551616) (hy : y < 18446744073709551616) (h : lvlB l = true) :
    Calls Try.prog 17 #[.int .i64 l, .int .u64 x, .int .u64 y] w fun e w' => e = .returned (.bool (changeB l x y)) ∧ Below w.heap.size w w' := by
  rw [change_ref]
  cases hp : plainB x y
  · rw [Bool.false_or]
    simp only [plainB, decide_eq_false_iff_not] at hp
    have e0 : ((x : Int) == (y : Int)) = false := by rw [beq_eq_false_iff_ne]; omega
    have e1 : ((x : Int) % 2 == 0) = false := by rw [beq_eq_false_iff_ne]; omega
    have e2 : ((y : Int) % 2 == 0) = false := by rw [beq_eq_false_iff_ne]; omega
    have s1 := fun w => refDecode_any l x w hx h
    have s2 := fun w => refDecode_any l y w hy h
    obtain ⟨a, ha⟩ : ∃ a, a = saysD l x := ⟨_, rfl⟩
    obtain ⟨b, hb⟩ : ∃ b, b = saysD l y := ⟨_, rfl⟩
    rw [← ha] at s1 ⊢
    rw [← hb] at s2 ⊢
    have hq := eql_dsc (mixD a b) b
    obtain ⟨r, hr⟩ : ∃ r, r = eqD (mixD a b) b := ⟨_, rfl⟩
    rw [← hr] at hq ⊢
    obtain ⟨t, ht⟩ : ∃ t, t = decide (a.kind ≠ 5) := ⟨_, rfl⟩
    have t5 : (a.kind != 5) = t := by rw [ht, Bool.eq_iff_iff, bne_iff_ne, decide_eq_true_iff]
    rw [← ht]
    clear ha hb hp hr ht
    unfold dv at *
    unfold mixD at hq
    simp only at hq
    cases r
    all_goals
      go_enter Try.func17, Try.ntmps17
      go_wp2_with fail
      refine (s1 _).mono ?_
      rintro e w1 ⟨rfl, hb⟩
      have L1 := below_call (Below.refl w.heap.size w) (Nat.le_refl _) hb
      clear hb
      go_wp2_with fail
      refine (s2 _).mono ?_
      rintro e w2 ⟨rfl, hb⟩
      have L2 := below_new L1 L1.size hb
      have A2 := (Box.new w1 a).below hb
      have T2 := (show Thaw (w1.alloc _) w1.heap.size from ⟨by simp, fun o => BoxW.new w1 a o⟩).below hb
      clear hb
      obtain ⟨ka, k0, k1, k2, k3, k4, k5, k6⟩ := A2.rules
      obtain ⟨kf, tf⟩ := T2.rules
      have hne : w1.heap.size < w2.heap.size := A2.1
      go_wp2
      go_ret
      refine ⟨ret_bool rfl, ?_⟩
      have z1 := L1.size
      have z2 := L2.size
      repeat' (first | (with_reducible exact L2) | (with_reducible refine Below.alloc ?_ ?_ _) | (with_reducible refine Below.setCell ?_ ?_ _) | (with_reducible assumption))
      simpa using z2
  · rw [Bool.true_or]
    simp only [plainB, decide_eq_true_eq] at hp
    have t1 := rem2 x
    have t2 := rem2 y
    have hc : (((x : Int) == (y : Int)) = true) ∨ (((x : Int) == (y : Int)) = false ∧ decide (x % 2 = 0) = true) ∨ (((x : Int) == (y : Int)) = false ∧ decide (x % 2 = 0) = false ∧ decide (y % 2 = 0) = true) := by
      simp only [beq_iff_eq, beq_eq_false_iff_ne, decide_eq_true_eq, decide_eq_false_iff_not, ne_eq]
      omega
    clear hp
    rcases hc with hc | ⟨hc1, hc2⟩ | ⟨hc1, hc2, hc3⟩
    · go_enter Try.func17, Try.ntmps17
      go_wp2
      go_ret
      exact ⟨rfl, Below.refl _ _⟩
    · rw [hc2] at t1
      clear t2 hc2
      go_enter Try.func17, Try.ntmps17
      go_wp2
      go_ret
      exact ⟨rfl, Below.refl _ _⟩
    · rw [hc2] at t1
      rw [hc3] at t2
      clear hc2 hc3
      go_enter Try.func17, Try.ntmps17
      go_wp2
      go_ret
      exact ⟨rfl, Below.refl _ _⟩

set_option maxHeartbeats 1000000 in
theorem changes_no (l : Int) (x y : Nat) (w : World) (hl : lvlB l = false) :
    Calls Try.prog 5 #[.int .i64 l, .int .u64 x, .int .u64 y] w fun e w' => e = .returned (.bool true) ∧ Below w.heap.size w w' := by
  have hc : l < 0 ∨ (¬ l < 0 ∧ 3 < l) := by have := lvlB_false hl; omega
  have hD := fun w => change_lvl l x y w hl
  have hq := eq_err 1
  rcases hc with hc | ⟨hc, hc2⟩
  all_goals
    go_enter Try.func5, Try.ntmps5
    go_wp2_with fail
    refine (up_any _).mono ?_
    rintro e w1 ⟨rfl, hb⟩
    have L1 := below_call (Below.refl w.heap.size w) (Nat.le_refl _) hb
    clear hb
    go_wp2_with fail
    refine (hD _).mono ?_
    rintro e w2 ⟨rfl, hb⟩
    have L2 := below_call L1 L1.size hb
    clear hb L1 hD
    go_wp2
    go_ret
    exact ⟨rfl, L2⟩

set_option maxHeartbeats 1000000 in
theorem changes_yes (l : Int) (x y : Nat) (w : World) (hx : x < 18446744073709551616) (hy : y < 18446744073709551616) (hl : lvlB l = true) :
    Calls Try.prog 5 #[.int .i64 l, .int .u64 x, .int .u64 y] w fun e w' => e = .returned (.bool true) ∧ Below w.heap.size w w' := by
  obtain ⟨h0, h3⟩ := lvlB_true hl
  have hD := fun w => change_yes l x y w hx hy hl
  have hR := fun w => refChange_any l x y w hx hy hl
  obtain ⟨r, hr⟩ : ∃ r, r = changeB l x y := ⟨_, rfl⟩
  rw [← hr] at hD hR
  clear hr hl
  cases r
  all_goals
    go_enter Try.func5, Try.ntmps5
    go_wp2_with fail
    refine (up_any _).mono ?_
    rintro e w1 ⟨rfl, hb⟩
    have L1 := below_call (Below.refl w.heap.size w) (Nat.le_refl _) hb
    clear hb
    go_wp2_with fail
    refine (hD _).mono ?_
    rintro e w2 ⟨rfl, hb⟩
    have L2 := below_call L1 L1.size hb
    clear hb L1 hD
    go_wp2_with fail
    refine (hR _).mono ?_
    rintro e w3 ⟨rfl, hb⟩
    have L3 := below_call L2 L2.size hb
    clear hb L2 hR
    go_wp2
    go_ret
    exact ⟨rfl, L3⟩

theorem walk_pteChanges (l x y : Int) (w : World) (_hl : -9223372036854775808 ≤ l ∧ l ≤ 9223372036854775807) (hx : 0 ≤ x ∧ x ≤ 18446744073709551615) (hy : 0 ≤ y ∧ y ≤ 18446744073709551615) :
    Calls Try.prog 5 #[.int .i64 l, .int .u64 x, .int .u64 y] w fun e w' => e = .returned (.bool true) ∧ Below w.heap.size w w' := by
  obtain ⟨x, rfl⟩ := Int.eq_ofNat_of_zero_le hx.1
  obtain ⟨y, rfl⟩ := Int.eq_ofNat_of_zero_le hy.1
  cases hl : lvlB l
  · exact changes_no l x y w hl
  · exact changes_yes l x y w (by omega) (by omega) hl
end Go.Proofs.Ytgijcokllnfcfaa
