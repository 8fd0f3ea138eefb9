/- PteBack and PteUnlike answer true for all arguments. -/
import Derived.Test.YtgijcokllnfcfaaPBox
namespace Go.Proofs.Ytgijcokllnfcfaa
open Go.RowKit

theorem wordD_lt {l : Int} {d : Dsc} (h : mayD l d = true) : wordD d < 18446744073709551616 := by
  have h1 := wOf_word l d h
  have h2 := wOf_bd d.kind d.frame (rightsB d.kind && !d.wr) (rightsB d.kind && !d.ex) d.sn d.fo d.so
  omega

/-- What comes of Decode and Encode behind it, for a word. -/
theorem says_back {l : Int} {x : Nat} (hl : lvlB l = true) (h : (saysD l x).kind ≠ 5) : mayD l (saysD l x) = true ∧ wordD (saysD l x) = x := by
  obtain ⟨l0, l3⟩ := lvlB_true hl
  unfold saysD at *
  cases ho : okN l x
  · rw [ho] at h
    exact absurd rfl h
  · rw [ho] at h
    exact says_may l0 l3 ho

set_option maxHeartbeats 1000000 in
theorem back_no (l : Int) (d : Dsc) (x : Nat) (w : World) (hx : x < 18446744073709551616) (hm : mayD l d = false) :
    Calls Try.prog 6 #[.int .i64 l, dv d, .int .u64 x] w fun e w' => e = .returned (.bool true) ∧ Below w.heap.size w w' := by
  have hE := fun w => encode_no l d w hm
  unfold dv at *
  go_enter Try.func6, Try.ntmps6
  go_wp2_with fail
  refine (up_any _).mono ?_
  rintro e w1 ⟨rfl, hb⟩
  have B1 := (Box.new w d).below hb
  have L1 := below_new (Below.refl w.heap.size w) (Nat.le_refl _) hb
  clear hb
  obtain ⟨ka, k0, k1, k2, k3, k4, k5, k6⟩ := B1.rules
  go_wp2_with fail
  refine (hE _).mono ?_
  rintro e w2 ⟨rfl, hb⟩
  have L2 := below_call L1 L1.size hb
  clear hb ka k0 k1 k2 k3 k4 k5 k6 B1 L1 hE
  cases hl : lvlB l
  · go_wp2_with fail
    refine (decode_no _ _ _ hl).mono ?_
    rintro e w3 ⟨rfl, hb⟩
    have L3 := below_call L2 L2.size hb
    clear hb L2
    unfold dv nilD
    go_wp2
    go_ret
    exact ⟨rfl, L3.alloc L3.size _⟩
  · have hD := fun w => decode_yes l x w hx hl
    have hsb := fun h => says_back (l := l) (x := x) hl h
    obtain ⟨s, hs⟩ : ∃ s, s = saysD l x := ⟨_, rfl⟩
    rw [← hs] at hD hsb
    unfold dv at hD
    by_cases h5 : s.kind = 5
    · clear hsb hs
      go_wp2_with fail
      refine (hD _).mono ?_
      rintro e w3 ⟨rfl, hb⟩
      have L3 := below_call L2 L2.size hb
      clear hb L2
      go_wp2
      go_ret
      exact ⟨rfl, L3.alloc L3.size _⟩
    · obtain ⟨hs1, hs2⟩ := hsb h5
      have hE2 := fun w => encode_yes l s w hs1
      rw [hs2] at hE2
      unfold dv at hE2
      have h5' : (s.kind == 5) = false := by simpa using h5
      clear hsb hs hs2 h5
      go_wp2_with fail
      refine (hD _).mono ?_
      rintro e w3 ⟨rfl, hb⟩
      have L3 := below_call L2 L2.size hb
      clear hb L2
      go_wp2_with fail
      refine (hE2 _).mono ?_
      rintro e w4 ⟨rfl, hb⟩
      have L4 := below_new L3 L3.size hb
      clear hb L3
      go_wp2
      go_ret
      exact ⟨rfl, L4⟩

set_option maxHeartbeats 1000000 in
theorem back_yes (l : Int) (d : Dsc) (x : Nat) (w : World) (hx : x < 18446744073709551616) (hm : mayD l d = true) :
    Calls Try.prog 6 #[.int .i64 l, dv d, .int .u64 x] w fun e w' => e = .returned (.bool true) ∧ Below w.heap.size w w' := by
  have hE := fun w => encode_yes l d w hm
  have hl := (mayD_lvl hm).1
  have hW := wordD_lt hm
  have hD0 := fun w => decode_yes l (wordD d) w hW hl
  rw [says_word l d hm] at hD0
  have hn := neq_dsc d d
  rw [eqD_iff.2 rfl] at hn
  have hD := fun w => decode_yes l x w hx hl
  have hsb := fun h => says_back (l := l) (x := x) hl h
  obtain ⟨s, hs⟩ : ∃ s, s = saysD l x := ⟨_, rfl⟩
  rw [← hs] at hD hsb
  obtain ⟨y, hy⟩ : ∃ y, y = wordD d := ⟨_, rfl⟩
  rw [← hy] at hE hD0
  unfold dv at *
  clear hs hy hm hW
  go_enter Try.func6, Try.ntmps6
  go_wp2_with fail
  refine (up_any _).mono ?_
  rintro e w1 ⟨rfl, hb⟩
  have B1 := (Box.new w d).below hb
  have L1 := below_new (Below.refl w.heap.size w) (Nat.le_refl _) hb
  clear hb
  obtain ⟨ka, k0, k1, k2, k3, k4, k5, k6⟩ := B1.rules
  go_wp2_with fail
  refine (hE _).mono ?_
  rintro e w2 ⟨rfl, hb⟩
  have L2 := below_call L1 L1.size hb
  have B2 := B1.below hb
  clear hb ka k0 k1 k2 k3 k4 k5 k6 B1 L1 hE
  obtain ⟨ka, k0, k1, k2, k3, k4, k5, k6⟩ := B2.rules
  go_wp2_with fail
  refine (hD0 _).mono ?_
  rintro e w3 ⟨rfl, hb⟩
  have L3 := below_call L2 L2.size hb
  have B3 := B2.below hb
  clear hb ka k0 k1 k2 k3 k4 k5 k6 B2 L2 hD0
  obtain ⟨ka, k0, k1, k2, k3, k4, k5, k6⟩ := B3.rules
  go_wp2_with fail
  refine (hD _).mono ?_
  rintro e w4 ⟨rfl, hb⟩
  have L4 := below_new L3 L3.size hb
  clear hb ka k0 k1 k2 k3 k4 k5 k6 B3 L3 hD
  by_cases h5 : s.kind = 5
  · clear hsb
    go_wp2
    go_ret
    exact ⟨rfl, L4.alloc L4.size _⟩
  · obtain ⟨hs1, hs2⟩ := hsb h5
    have hE2 := fun w => encode_yes l s w hs1
    rw [hs2] at hE2
    unfold dv at hE2
    have h5' : (s.kind == 5) = false := by simpa using h5
    clear hsb hs2 h5
    go_wp2_with fail
    refine (hE2 _).mono ?_
    rintro e w5 ⟨rfl, hb⟩
    have L5 := below_new L4 L4.size hb
    clear hb L4
    go_wp2
    go_ret
    exact ⟨rfl, L5⟩

theorem nat_of_u64 {x : Int} (h : 0 ≤ x ∧ x ≤ 18446744073709551615) : ∃ n : Nat, x = n ∧ n < 18446744073709551616 := by
  obtain ⟨n, rfl⟩ := Int.eq_ofNat_of_zero_le h.1
  exact ⟨n, rfl, by omega⟩
theorem walk_pteBack (l : Int) (d : Dsc) (x : Int) (w : World) (_hl : -9223372036854775808 ≤ l ∧ l ≤ 9223372036854775807) (hx : 0 ≤ x ∧ x ≤ 18446744073709551615) :
    Calls Try.prog 6 #[.int .i64 l, dv d, .int .u64 x] w fun e w' => e = .returned (.bool true) ∧ Below w.heap.size w w' := by
  obtain ⟨n, rfl, hn⟩ := nat_of_u64 hx
  cases hm : mayD l d
  · exact back_no l d n w hn hm
  · exact back_yes l d n w hn hm

theorem word_inj {l : Int} {a b : Dsc} (ha : mayD l a = true) (hb : mayD l b = true) : ((((wordD a : Nat) : Int) == ((wordD b : Nat) : Int)) == eqD a b) = true := by
  rw [beq_iff_eq, Bool.eq_iff_iff, beq_iff_eq, eqD_iff]
  constructor
  · intro h
    have : wordD a = wordD b := by omega
    rw [← says_word l a ha, ← says_word l b hb, this]
  · rintro rfl; rfl

/-- What is asked of Encode's two answers alone. -/
def unlikeOk (p q : Int) (e f : Value) (r : Bool) : Prop := (e = .nilIface ∧ f = .nilIface ∧ ((p == q) == r) = true) ∨ ((∃ n, e = .iface 30 (.int .i64 n)) ∧ f = .nilIface) ∨ (∃ n, e = .iface 30 (.int .i64 n)) ∧ (∃ n, f = .iface 30 (.int .i64 n)) ∨ (e = .nilIface ∧ ∃ n, f = .iface 30 (.int .i64 n))

set_option maxHeartbeats 2000000 in
theorem unlike_of (l : Int) (a b : Dsc) (w : World) (p q : Int) (e f : Value) (h : unlikeOk p q e f (eqD a b))
    (hE : ∀ w, Calls Try.prog 13 #[.int .i64 l, dv a] w fun r w' => r = .returned (.tuple #[.int .u64 p, e]) ∧ Below w.heap.size w w')
    (hE2 : ∀ w, Calls Try.prog 13 #[.int .i64 l, dv b] w fun r w' => r = .returned (.tuple #[.int .u64 q, f]) ∧ Below w.heap.size w w') :
    Calls Try.prog 8 #[.int .i64 l, dv a, dv b] w fun e w' => e = .returned (.bool true) ∧ Below w.heap.size w w' := by
  have hq := eql_dsc a b
  obtain ⟨r, hr⟩ : ∃ r, r = eqD a b := ⟨_, rfl⟩
  rw [← hr] at hq h
  unfold dv at *
  clear hr
  go_enter Try.func8, Try.ntmps8
  go_wp2_with fail
  refine (up_any _).mono ?_
  rintro e1 w1 ⟨rfl, hb⟩
  have A1 := ((Box.new w a).old _).below hb
  have B1 := (Box.new (w.alloc _) b).below hb
  rw [World.size_alloc] at B1
  have L1 := below_new ((Below.refl w.heap.size w).alloc (Nat.le_refl _) _) (by simp) hb
  clear hb
  obtain ⟨-, k0, k1, k2, k3, k4, k5, k6⟩ := A1.rules
  go_wp2_with fail
  refine (hE _).mono ?_
  rintro e1 w2 ⟨rfl, hb⟩
  have L2 := below_call L1 L1.size hb
  have A2 := A1.below hb
  have B2 := B1.below hb
  clear hb k0 k1 k2 k3 k4 k5 k6 A1 B1 L1 hE
  obtain ⟨-, k0, k1, k2, k3, k4, k5, k6⟩ := B2.rules
  go_wp2_with fail
  refine (hE2 _).mono ?_
  rintro e1 w3 ⟨rfl, hb⟩
  have L3 := below_call L2 L2.size hb
  have A3 := A2.below hb
  have B3 := B2.below hb
  clear hb k0 k1 k2 k3 k4 k5 k6 A2 B2 L2 hE2
  rcases h with ⟨rfl, rfl, h⟩ | ⟨⟨n, rfl⟩, rfl⟩ | ⟨⟨n, rfl⟩, ⟨m, rfl⟩⟩ | ⟨rfl, ⟨n, rfl⟩⟩
  · obtain ⟨-, k0, k1, k2, k3, k4, k5, k6⟩ := A3.rules
    obtain ⟨-, j0, j1, j2, j3, j4, j5, j6⟩ := B3.rules
    clear A3 B3
    go_wp2
    go_ret
    exact ⟨rfl, L3⟩
  all_goals
    clear A3 B3
    go_wp2
    go_ret
    exact ⟨rfl, L3⟩

theorem walk_pteUnlike (l : Int) (a b : Dsc) (w : World) (_hl : -9223372036854775808 ≤ l ∧ l ≤ 9223372036854775807) :
    Calls Try.prog 8 #[.int .i64 l, dv a, dv b] w fun e w' => e = .returned (.bool true) ∧ Below w.heap.size w w' := by
  cases ha : mayD l a
  · cases hb : mayD l b
    · exact unlike_of l a b w _ _ _ _ (Or.inr (Or.inr (Or.inl ⟨⟨_, rfl⟩, ⟨_, rfl⟩⟩))) (fun w => encode_no l a w ha) (fun w => encode_no l b w hb)
    · exact unlike_of l a b w _ _ _ _ (Or.inr (Or.inl ⟨⟨_, rfl⟩, rfl⟩)) (fun w => encode_no l a w ha) (fun w => encode_yes l b w hb)
  · cases hb : mayD l b
    · exact unlike_of l a b w _ _ _ _ (Or.inr (Or.inr (Or.inr ⟨rfl, ⟨_, rfl⟩⟩))) (fun w => encode_yes l a w ha) (fun w => encode_no l b w hb)
    · exact unlike_of l a b w _ _ _ _ (Or.inl ⟨rfl, rfl, word_inj ha hb⟩) (fun w => encode_yes l a w ha) (fun w => encode_yes l b w hb)
end Go.Proofs.Ytgijcokllnfcfaa
