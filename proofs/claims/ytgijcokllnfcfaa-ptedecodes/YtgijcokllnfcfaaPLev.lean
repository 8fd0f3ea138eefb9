/- PteLevels answers true for all arguments. -/
import Derived.Test.YtgijcokllnfcfaaPBack
namespace Go.Proofs.Ytgijcokllnfcfaa
open Go.RowKit

/-- Is a word reserved at another level? -/
def badAt (l o k : Int) : Bool := decide (k = 1 ∧ o = 3 ∨ (k = 2 ∨ k = 3) ∧ o ≠ l)

theorem side_mul (d : Dsc) : ∃ m : Nat, sideN d = 128 * m := by
  unfold sideN
  refine ⟨d.so.toNat * 281474976710656 + bn (!d.wr) + bn (!d.ex) * 140737488355328 + bn d.sn * 8 + bn d.fo * 35184372088832, ?_⟩
  obtain ⟨y, hy⟩ : ∃ y, y = d.so.toNat * 281474976710656 + bn (!d.wr) + bn (!d.ex) * 140737488355328 + bn d.sn * 8 + bn d.fo * 35184372088832 := ⟨_, rfl⟩
  obtain ⟨z, hz⟩ : ∃ z, z = d.so.toNat * 36028797018963968 + bn (!d.wr) * 128 + bn (!d.ex) * 18014398509481984 + bn d.sn * 1024 + bn d.fo * 4503599627370496 := ⟨_, rfl⟩
  rw [← hy, ← hz]
  omega

theorem word_mod {l : Int} {d : Dsc} (h : mayD l d = true) : (d.kind = 0 ∧ wordD d = 0) ∨ (d.kind = 1 ∧ l ≠ 3 ∧ wordD d % 128 = 3) ∨ (d.kind = 2 ∧ l = 2 ∧ wordD d % 128 = 65) ∨ (d.kind = 3 ∧ l = 3 ∧ wordD d % 128 = 67) ∨ (d.kind = 4 ∧ wordD d % 128 = 10) := by
  simp only [mayD, Bool.and_eq_true, decide_eq_true_eq] at h
  obtain ⟨⟨l0, l3, f0, f1, s0, s1⟩, h⟩ := h
  obtain ⟨m, hm⟩ := side_mul d
  by_cases k0 : d.kind = 0
  · exact Or.inl ⟨k0, by unfold wordD; rw [if_pos k0]⟩
  by_cases k1 : d.kind = 1
  · rw [k1] at h
    simp at h
    exact Or.inr (Or.inl ⟨k1, by omega, by rw [word1 d k1]; omega⟩)
  by_cases k2 : d.kind = 2
  · rw [k2] at h
    simp at h
    exact Or.inr (Or.inr (Or.inl ⟨k2, h.1.1, by rw [word2 d k2, hm]; omega⟩))
  by_cases k3 : d.kind = 3
  · rw [k3] at h
    simp at h
    exact Or.inr (Or.inr (Or.inr (Or.inl ⟨k3, h, by rw [word3 d k3, hm]; omega⟩)))
  by_cases k4 : d.kind = 4
  · exact Or.inr (Or.inr (Or.inr (Or.inr ⟨k4, by rw [word4 d k4, hm]; omega⟩)))
  simp [k0, k1, k2, k3, k4] at h

theorem says_at_bad {l o : Int} {d : Dsc} (h : mayD l d = true) (h0 : 0 ≤ o) (h3 : o ≤ 3) (hb : badAt l o d.kind = true) : saysD o (wordD d) = badD := by
  simp only [badAt, decide_eq_true_eq] at hb
  have hno : okN o (wordD d) = false := by
    cases ho : okN o (wordD d)
    · rfl
    exfalso
    obtain ⟨q1, q2⟩ := says_may h0 h3 ho
    have hk := tell_kind o (wordD d)
    have m2 := word_mod q1
    rw [q2, hk] at m2
    have n5 := (okN_true ho).1
    rcases word_mod h with ⟨k, e⟩ | ⟨k, e, e2⟩ | ⟨k, e, e2⟩ | ⟨k, e, e2⟩ | ⟨k, e⟩
    all_goals (rcases kindN_cases o (wordD d) with ⟨c, _⟩ | ⟨c, c1, c2, c3⟩ | ⟨c, c1, c2, c3⟩ | ⟨c, c1, c2, c3⟩ | ⟨c, c1, c2⟩ | ⟨c, _⟩)
    all_goals (rw [c] at m2 n5; omega)
  unfold saysD
  rw [hno]
  rfl

theorem says_at_good {l o : Int} {d : Dsc} (h : mayD l d = true) (h0 : 0 ≤ o) (h3 : o ≤ 3) (hb : badAt l o d.kind = false) : saysD o (wordD d) = d := by
  simp only [badAt, decide_eq_false_iff_not] at hb
  apply says_word
  simp only [mayD, Bool.and_eq_true, decide_eq_true_eq] at h ⊢
  obtain ⟨⟨l0, l3, f0, f1, s0, s1⟩, h⟩ := h
  refine ⟨⟨h0, h3, f0, f1, s0, s1⟩, ?_⟩
  by_cases k0 : d.kind = 0
  · rw [k0] at h ⊢; simpa using h
  by_cases k1 : d.kind = 1
  · rw [k1] at h ⊢; simp at h ⊢
    exact ⟨⟨⟨⟨⟨by omega, h.1.1.1.1.2⟩, h.1.1.1.2⟩, h.1.1.2⟩, h.1.2⟩, h.2⟩
  by_cases k2 : d.kind = 2
  · rw [k2] at h ⊢; simp at h ⊢
    exact ⟨⟨by omega, h.1.2⟩, h.2⟩
  by_cases k3 : d.kind = 3
  · rw [k3] at h ⊢; simp at h ⊢
    omega
  by_cases k4 : d.kind = 4
  · rw [k4] at h ⊢; simpa using h
  simp [k0, k1, k2, k3, k4] at h

set_option maxHeartbeats 1000000 in
theorem levels_no (l : Int) (d : Dsc) (other : Int) (w : World) (ho : -9223372036854775808 ≤ other ∧ other ≤ 9223372036854775807) (hm : mayD l d = false) :
    Calls Try.prog 9 #[.int .i64 l, dv d, .int .i64 other] w fun e w' => e = .returned (.bool true) ∧ Below w.heap.size w w' := by
  obtain ⟨ho, ho'⟩ := ho
  have hE := fun w => encode_no l d w hm
  unfold dv at *
  obtain ⟨q, hq⟩ : ∃ q, -(other + 1) = q := ⟨_, rfl⟩
  by_cases hn : other < 0
  all_goals
    go_enter Try.func9, Try.ntmps9
    go_wp2_with fail
    refine (up_any _).mono ?_
    rintro e w1 ⟨rfl, hb⟩
    have B1 := (Box.new w d).below hb
    have L1 := below_new (Below.refl w.heap.size w) (Nat.le_refl _) hb
    clear hb
    obtain ⟨ka, k0, k1, k2, k3, k4, k5, k6⟩ := B1.rules
    go_wp2_with fail
    refine (hE _).mono ?_
    rintro e w2 ⟨rfl, hb⟩
    have L2 := below_call L1 L1.size hb
    clear hb ka k0 k1 k2 k3 k4 k5 k6 B1 L1 hE
    go_wp2
    go_ret
    exact ⟨rfl, L2⟩

set_option maxHeartbeats 4000000 in
theorem levels_good (l : Int) (d : Dsc) (other o : Int) (y : Nat) (w : World) (ho : -9223372036854775808 ≤ other) (ho' : other ≤ 9223372036854775807)
    (hsel : (0 ≤ other ∧ other % 4 = o) ∨ (other < 0 ∧ ∃ q, 0 ≤ q ∧ q ≤ 9223372036854775807 ∧ -(other + 1) = q ∧ q % 4 = o))
    (hE : ∀ w, Calls Try.prog 13 #[.int .i64 l, dv d] w fun e w' => e = .returned (.tuple #[.int .u64 y, .nilIface]) ∧ Below w.heap.size w w')
    (hD : ∀ w, Calls Try.prog 11 #[.int .i64 o, .int .u64 y] w fun e w' => e = .returned (.tuple #[dv d, .nilIface]) ∧ Below w.heap.size w w')
    (hc : ((d.kind == 1) = true ∧ (d.kind == 2) = false ∧ (d.kind == 3) = false ∧ (o == 3) = false) ∨ ((d.kind == 1) = false ∧ (d.kind == 2) = true ∧ (o != l) = false) ∨ ((d.kind == 1) = false ∧ (d.kind == 2) = false ∧ (d.kind == 3) = true ∧ (o != l) = false) ∨ ((d.kind == 1) = false ∧ (d.kind == 2) = false ∧ (d.kind == 3) = false)) :
    Calls Try.prog 9 #[.int .i64 l, dv d, .int .i64 other] w fun e w' => e = .returned (.bool true) ∧ Below w.heap.size w w' := by
  have q1 := eql_dsc d d
  rw [eqD_iff.2 rfl] at q1
  unfold dv at *
  rcases hsel with ⟨hn, e1⟩ | ⟨hn, q, g0, g1, e0, e1⟩ <;> rcases hc with ⟨b1, b2, b3, b4⟩ | ⟨b1, b2, b3⟩ | ⟨b1, b2, b3, b4⟩ | ⟨b1, b2, b3⟩
  all_goals
    go_enter Try.func9, Try.ntmps9
    go_wp2_with fail
    refine (up_any _).mono ?_
    rintro e w1 ⟨rfl, hb⟩
    have B1 := (Box.new w d).below hb
    have L1 := below_new (Below.refl w.heap.size w) (Nat.le_refl _) hb
    clear hb
    obtain ⟨ka, k0, k1, k2, k3, k4, k5, k6⟩ := B1.rules
    go_wp2_with fail
    refine (hE _).mono ?_
    rintro e w2 ⟨rfl, hb⟩
    have L2 := below_call L1 L1.size hb
    have B2 := B1.below hb
    clear hb ka k0 k1 k2 k3 k4 k5 k6 B1 L1 hE
    go_wp2_with fail
    refine (hD _).mono ?_
    rintro e w3 ⟨rfl, hb⟩
    have L3 := below_call L2 L2.size hb
    have B3 := B2.below hb
    clear hb B2 L2 hD
    obtain ⟨ka, k0, k1, k2, k3, k4, k5, k6⟩ := B3.rules
    go_wp2
    go_ret
    exact ⟨rfl, L3.alloc L3.size _⟩

set_option maxHeartbeats 4000000 in
theorem levels_bad (l : Int) (d : Dsc) (other o : Int) (y : Nat) (w : World) (ho : -9223372036854775808 ≤ other) (ho' : other ≤ 9223372036854775807)
    (hsel : (0 ≤ other ∧ other % 4 = o) ∨ (other < 0 ∧ ∃ q, 0 ≤ q ∧ q ≤ 9223372036854775807 ∧ -(other + 1) = q ∧ q % 4 = o))
    (hE : ∀ w, Calls Try.prog 13 #[.int .i64 l, dv d] w fun e w' => e = .returned (.tuple #[.int .u64 y, .nilIface]) ∧ Below w.heap.size w w')
    (hD : ∀ w, Calls Try.prog 11 #[.int .i64 o, .int .u64 y] w fun e w' => e = .returned (.tuple #[.agg #[.int .i64 5, .int .i64 0, .bool false, .bool false, .bool false, .bool false, .int .i64 0], .nilIface]) ∧ Below w.heap.size w w')
    (hc : ((d.kind == 1) = true ∧ (o == 3) = true) ∨ ((d.kind == 1) = false ∧ (d.kind == 2) = true ∧ (o != l) = true) ∨ ((d.kind == 1) = false ∧ (d.kind == 2) = false ∧ (d.kind == 3) = true ∧ (o != l) = true)) :
    Calls Try.prog 9 #[.int .i64 l, dv d, .int .i64 other] w fun e w' => e = .returned (.bool true) ∧ Below w.heap.size w w' := by
  unfold dv at *
  rcases hsel with ⟨hn, e1⟩ | ⟨hn, q, g0, g1, e0, e1⟩ <;> rcases hc with ⟨b1, b2⟩ | ⟨b1, b2, b3⟩ | ⟨b1, b2, b3, b4⟩
  all_goals
    go_enter Try.func9, Try.ntmps9
    go_wp2_with fail
    refine (up_any _).mono ?_
    rintro e w1 ⟨rfl, hb⟩
    have B1 := (Box.new w d).below hb
    have L1 := below_new (Below.refl w.heap.size w) (Nat.le_refl _) hb
    clear hb
    obtain ⟨ka, k0, k1, k2, k3, k4, k5, k6⟩ := B1.rules
    go_wp2_with fail
    refine (hE _).mono ?_
    rintro e w2 ⟨rfl, hb⟩
    have L2 := below_call L1 L1.size hb
    have B2 := B1.below hb
    clear hb ka k0 k1 k2 k3 k4 k5 k6 B1 L1 hE
    go_wp2_with fail
    refine (hD _).mono ?_
    rintro e w3 ⟨rfl, hb⟩
    have L3 := below_call L2 L2.size hb
    have B3 := B2.below hb
    clear hb B2 L2 hD
    obtain ⟨ka, k0, k1, k2, k3, k4, k5, k6⟩ := B3.rules
    go_wp2
    go_ret
    exact ⟨rfl, L3.alloc L3.size _⟩

theorem walk_pteLevels (l : Int) (d : Dsc) (other : Int) (w : World) (_hl : -9223372036854775808 ≤ l ∧ l ≤ 9223372036854775807) (ho : -9223372036854775808 ≤ other ∧ other ≤ 9223372036854775807) :
    Calls Try.prog 9 #[.int .i64 l, dv d, .int .i64 other] w fun e w' => e = .returned (.bool true) ∧ Below w.heap.size w w' := by
  cases hm : mayD l d
  · exact levels_no l d other w ho hm
  obtain ⟨o, h0, h3, hsel⟩ : ∃ o : Int, 0 ≤ o ∧ o ≤ 3 ∧ ((0 ≤ other ∧ other % 4 = o) ∨ (other < 0 ∧ ∃ q, 0 ≤ q ∧ q ≤ 9223372036854775807 ∧ -(other + 1) = q ∧ q % 4 = o)) := by
    by_cases hn : other < 0
    · exact ⟨(-(other + 1)) % 4, by omega, by omega, Or.inr ⟨hn, _, by omega, by omega, rfl, rfl⟩⟩
    · exact ⟨other % 4, by omega, by omega, Or.inl ⟨by omega, rfl⟩⟩
  have hl : lvlB o = true := by unfold lvlB; rw [decide_eq_true_iff]; exact ⟨h0, h3⟩
  have hE := fun w => encode_yes l d w hm
  have hD := fun w => decode_yes o (wordD d) w (wordD_lt hm) hl
  cases hb : badAt l o d.kind
  · rw [says_at_good hm h0 h3 hb] at hD
    simp only [badAt, decide_eq_false_iff_not] at hb
    refine levels_good l d other o _ w ho.1 ho.2 hsel hE hD ?_
    simp only [beq_iff_eq, beq_eq_false_iff_ne, bne_eq_false_iff_eq, ne_eq]
    omega
  · rw [says_at_bad hm h0 h3 hb] at hD
    simp only [badAt, decide_eq_true_eq] at hb
    refine levels_bad l d other o _ w ho.1 ho.2 hsel hE hD ?_
    simp only [beq_iff_eq, beq_eq_false_iff_ne, bne_iff_ne, ne_eq]
    omega
end Go.Proofs.Ytgijcokllnfcfaa
