/- What word.Cut and the reference's Cut answer: the same runs; conditions: the table lies as its text lays it. -/
import Derived.Test.YthjkjlpiiejkmaaDoorLeaf2
namespace Go.Proofs.YthjkjlpiiejkmaaDoor
open Go.RowKit

theorem Tryd.info44 : (Tryd.prog.info? 44).map (fun i => (i.zero, i.size, i.bytes)) = some (some (.agg #[.int .i64 0, .int .i64 0]), 2, 16) := by kernel_rfl

theorem runs_step {B : Nat} {w wr w1 : World} {o : Obj} {u v' : Value} {xs : List (Nat × Nat)} {f k : Nat} (hB : B ≤ wr.heap.size) (hown : wr.ownsRow B 44 2 u xs.length (runCells xs)) (hbel : Below B w wr)
    (hown' : w1.ownsRow B 44 2 v' (xs.length + 1) (runCells xs ++ [.int .i64 f, .int .i64 k])) (hgrow : (wr.alloc o).grownBy w1 u.ownBlock) :
    w1.ownsRow B 44 2 v' (xs ++ [(f, k)]).length (runCells (xs ++ [(f, k)])) ∧ Below B w w1 := by
  refine ⟨?_, (hbel.alloc hB o).grown hgrow (by simp; omega) (fun k hk => (hown.lt k hk).1)⟩
  rw [runCells_append, List.length_append]
  exact hown'

set_option maxHeartbeats 1000000 in
theorem cut_yes (f0 t : Nat) (w : World) (hT : Tab w) (hf : f0 ≤ t) (ht : t ≤ 1048576) :
    Calls Tryd.prog 22 #[.int .i64 f0, .int .i64 t] w fun e w' => ∃ v, e = .returned (.tuple #[v, .nilIface]) ∧ w'.ownsRow w.heap.size 44 2 v (cutL f0 t).length (runCells (cutL f0 t)) ∧ Below w.heap.size w w' := by
  obtain ⟨i0, hi, hz0, hz1, hz2⟩ := info_parts Tryd.info44
  have n1 : ¬ ((f0 : Int) < 0) := by omega
  have n2 : ¬ (t < f0) := by omega
  have n3 : ¬ ((1048576 : Int) < (t : Int)) := by omega
  go_enter Tryd.func22, Tryd.ntmps22
  go_wp2
  go_loopw [0, 6] (fun fr v wr => ∃ (f : Nat) (xs : List (Nat × Nat)), fr = .int .i64 f ∧ f ≤ t ∧ xs ++ cutL f t = cutL f0 t ∧ xs.length ≤ f ∧ wr.ownsRow w.heap.size 44 2 v xs.length (runCells xs) ∧ Below w.heap.size w wr)
    (fun fr _ _ => t - (intOf fr).toNat)
  case atStart => exact ⟨f0, [], rfl, hf, rfl, by simp, World.ownsRow_nil _ _ _ _, Below.refl _ _⟩
  case round =>
    obtain ⟨f, xs, rfl, hft, hxs, hlen, hown, hbel⟩ := hrel
    have hTr := hT.below hbel (Nat.le_refl _)
    have HX : Hid _ := hxs
    have HT : Hid (Tab wr) := hTr
    clear hxs hTr
    by_cases hlt : f < t
    · have hol := ordN_le f t
      have hof := (ordN_fits f t hlt ht).2
      go_wp2_with (first
        | (go_at_call 30; refine (longest_any f t _ HT.out hlt ht).mono ?_; rintro e w1 ⟨rfl, hw⟩; obtain rfl := hw.symm)
        | (at_builtin; refine wpList_append_own _ rfl _ _ 40 rfl w.heap.size 44 i0 (.agg #[.int .i64 0, .int .i64 0]) 2 16 Tryd.underlying40 hi hz0 hz1 hz2 rfl (by decide) _ _ _ rfl (hown.alloc _) ⟨wr.heap.size, 0, none⟩ 1 1 [.int .i64 f, .int .i64 (ordN f t)] rfl rfl ?c1 ?c2 ?c3 ?c4 ?c5 ?_))
      case c1 =>
        intro j u hj
        match j, hj with
        | 0, hj => simp at hj; subst hj; simp [Addr.add]
        | 1, hj => simp at hj; subst hj; simp [Addr.add]
      case c2 => intro u hu; simp at hu; rcases hu with rfl | rfl <;> rfl
      case c3 => unfold maxLen; omega
      case c4 => omega
      case c5 => have := hbel.size; simp; omega
      intro v' w1 hown' hgrow _
      have R := runs_step hbel.size hown hbel hown' hgrow
      have HR : Hid _ := R
      have h1 : (0 : Int) ≤ 2 ^ (ordN f t) := Int.le_of_lt (Int.pow_pos (by decide))
      have h2 : (2 : Int) ^ (ordN f t) ≤ 1048576 := by
        have := Nat.pow_le_pow_right (show 0 < 2 by decide) hol
        simp only [Nat.reducePow] at this
        have e : ((2 ^ ordN f t : Nat) : Int) = 2 ^ ordN f t := by simp
        omega
      clear hown' hgrow hown hbel HT R
      have e2 : ((2 ^ ordN f t : Nat) : Int) = 2 ^ ordN f t := by simp
      have h3 := Nat.two_pow_pos (ordN f t)
      have HE : Hid _ := e2
      clear e2
      go_wp2
      go_roundw
      case rel =>
        have e2 := HE.out
        refine ⟨f + 2 ^ ordN f t, xs ++ [(f, ordN f t)], ?_, hof, ?_, ?_, HR.out.1, HR.out.2⟩
        · go_num
        · rw [← HX.out, cutL_lt f t hlt]; simp
        · simp; omega
      case measure =>
        have e2 := HE.out
        simp only [intOf]; omega
    · have : f = t := by omega
      subst this
      have hx := HX.out
      rw [cutL_ge f f (Nat.le_refl _), List.append_nil] at hx
      have HX2 : Hid _ := hx
      clear HX hx
      go_wp2
      go_ret2
      refine ⟨_, rfl, ?_, hbel⟩
      rw [← HX2.out]
      exact hown

theorem cut_no (f t : Int) (w : World) (h : ¬ (0 ≤ f ∧ f ≤ t ∧ t ≤ 1048576)) :
    Calls Tryd.prog 22 #[.int .i64 f, .int .i64 t] w fun e w' => e = .returned (.tuple #[.slice none 0 0, .iface 30 (.int .i64 1)]) ∧ w' = w := by
  go_enter Tryd.func22, Tryd.ntmps22
  by_cases h1 : f < 0
  · go_wp2
    go_ret2
    exact ⟨rfl, rfl⟩
  · by_cases h2 : t < f
    · go_wp2
      go_ret2
      exact ⟨rfl, rfl⟩
    · have h3 : 1048576 < t := by omega
      go_wp2
      go_ret2
      exact ⟨rfl, rfl⟩

theorem power_int (z : Int) (w : World) (h0 : 0 ≤ z) (h : z ≤ 62) :
    Calls Tryd.prog 19 #[.int .i64 z] w fun e w' => e = .returned (.int .i64 (pw z.toNat)) ∧ w' = w := by
  have := power_any z.toNat w (by omega)
  rwa [show ((z.toNat : Nat) : Int) = z from by omega] at this

theorem pw_mod (f o : Nat) : ((f : Int) % pw o = 0) ↔ f % 2 ^ o = 0 := by unfold pw; omega
theorem pw_add (f t o : Nat) : ((f : Int) + pw o ≤ t) ↔ f + 2 ^ o ≤ t := by unfold pw; omega
theorem pw_small (o : Nat) (h : o ≤ 21) : pw o ≤ 2097152 := by
  unfold pw
  have := Nat.pow_le_pow_right (show 0 < 2 by decide) h
  simp only [Nat.reducePow] at this
  omega
theorem toNat_succ (o : Nat) : ((o : Int) + 1).toNat = o + 1 := by omega

theorem cells_two (w : World) (a b : Int) (T : TypeId) : ∀ j u, ([.int .i64 a, .int .i64 b] : List Value)[j]? = some u → (w.alloc (.cells #[.int .i64 a, .int .i64 b] T)).cell? ((⟨w.heap.size, 0, none⟩ : Addr).add j) = some u := by
  intro j u hj
  match j, hj with
  | 0, hj => simp at hj; subst hj; simp [Addr.add]
  | 1, hj => simp at hj; subst hj; simp [Addr.add]
theorem one_two (a b : Int) : ∀ u ∈ ([.int .i64 a, .int .i64 b] : List Value), u.oneCell' = true := by
  intro u hu; simp at hu; rcases hu with rfl | rfl <;> rfl

set_option maxHeartbeats 2000000 in
theorem refCut_any (f0 t : Nat) (w : World) (hf : f0 ≤ t) (ht : t ≤ 1048576) :
    Calls Tryd.prog 23 #[.int .i64 f0, .int .i64 t] w fun e w' => ∃ v, e = .returned v ∧ w'.ownsRow w.heap.size 44 2 v (cutL f0 t).length (runCells (cutL f0 t)) ∧ Below w.heap.size w w' := by
  obtain ⟨i0, hi, hz0, hz1, hz2⟩ := info_parts Tryd.info44
  go_enter Tryd.func23, Tryd.ntmps23
  go_wp2
  go_loopw [5, 6] (fun v fr wr => ∃ (f : Nat) (xs : List (Nat × Nat)), fr = .int .i64 f ∧ f ≤ t ∧ xs ++ cutL f t = cutL f0 t ∧ xs.length ≤ f ∧ wr.ownsRow w.heap.size 44 2 v xs.length (runCells xs) ∧ Below w.heap.size w wr)
    (fun _ fr _ => t - (intOf fr).toNat)
  case atStart => exact ⟨f0, [], rfl, hf, rfl, by simp, World.ownsRow_nil _ _ _ _, Below.refl _ _⟩
  case round =>
    obtain ⟨f, xs, rfl, hft, hxs, hlen, hown, hbel⟩ := hrel
    have HX : Hid _ := hxs
    clear hxs
    by_cases hlt : f < t
    · have hol := ordN_le f t
      have hof := (ordN_fits f t hlt ht).2
      go_wp2
      go_loop [7] (fun q => ∃ o : Nat, o ≤ ordN f t ∧ q = .int .i64 o) (fun q => ordN f t - (intOf q).toNat)
      case atStart => exact ⟨0, Nat.zero_le _, rfl⟩
      case round =>
        obtain ⟨o, ho, rfl⟩ := hrel
        have hiff := ordN_lt_iff f t o hlt ht
        have hp0 := pw_pos (o + 1)
        have hp1 := pw_small (o + 1) (by omega)
        have m1 := pw_mod f (o + 1)
        have m2 := pw_add f t (o + 1)
        have ets := toNat_succ o
        by_cases hr : o < ordN f t
        · obtain ⟨q1, q2, q3⟩ := hiff.1 hr
          have r2 := m1.2 q2
          have r3 := m2.2 q3
          clear hiff m1 m2 q2 q3 hown hbel
          go_wp2_with (go_at_call 19; refine (power_int _ _ (by omega) (by omega)).mono ?_; rintro e w1 ⟨rfl, hw⟩; obtain rfl := hw.symm)
          go_round
          case rel => exact ⟨o + 1, by omega, by go_num⟩
          case measure => simp [intOf]; omega
        · have heq : o = ordN f t := by omega
          have hcase : 20 ≤ o ∨ (o < 20 ∧ ((f : Int) % pw (o + 1) == 0) = false) ∨ (o < 20 ∧ ((f : Int) % pw (o + 1) == 0) = true ∧ ¬ (f : Int) + pw (o + 1) ≤ t) := by
            by_cases c1 : 20 ≤ o
            · exact .inl c1
            · by_cases c2 : (f : Int) % pw (o + 1) = 0
              · exact .inr (.inr ⟨by omega, by simpa using c2, fun c3 => hr (hiff.2 ⟨by omega, m1.1 c2, m2.1 c3⟩)⟩)
              · exact .inr (.inl ⟨by omega, by simpa using c2⟩)
          have HE : Hid (o = ordN f t) := heq
          clear hiff m1 m2 heq hr
          rcases hcase with c | ⟨c, c2⟩ | ⟨c, c2, c3⟩
          all_goals
            go_wp2_with (first
              | (go_at_call 19; refine (power_int _ _ (by omega) (by omega)).mono ?_; rintro e w1 ⟨rfl, hw⟩; obtain rfl := hw.symm)
              | (at_builtin; refine wpList_append_own _ rfl _ _ 40 rfl w.heap.size 44 i0 (.agg #[.int .i64 0, .int .i64 0]) 2 16 Tryd.underlying40 hi hz0 hz1 hz2 rfl (by decide) _ _ _ rfl (hown.alloc _) ⟨wr.heap.size, 0, none⟩ 1 1 [.int .i64 f, .int .i64 o] rfl rfl (cells_two _ _ _ _) (one_two _ _) (by unfold maxLen; omega) (by omega) (by have := hbel.size; simp; omega) ?_))
            intro v' w1 hown' hgrow _
            have HR : Hid _ := runs_step hbel.size hown hbel hown' hgrow
            have g1 := pw_pos o
            have g2 := pw_small o (by omega)
            clear hown' hgrow hown hbel
            go_wp2_with (go_at_call 19; refine (power_int _ _ (by omega) (by omega)).mono ?_; rintro e w1 ⟨rfl, hw⟩; obtain rfl := hw.symm)
            go_roundw
            case rel =>
              obtain rfl := HE.out
              refine ⟨f + 2 ^ ordN f t, xs ++ [(f, ordN f t)], ?_, hof, ?_, ?_, HR.out.1, HR.out.2⟩
              · simp [pw]
              · rw [← HX.out, cutL_lt f t hlt]; simp
              · have := Nat.two_pow_pos (ordN f t)
                simp; omega
            case measure =>
              simp [intOf]; omega
    · have : f = t := by omega
      subst this
      have hx := HX.out
      rw [cutL_ge f f (Nat.le_refl _), List.append_nil] at hx
      have HX2 : Hid _ := hx
      clear HX hx
      go_wp2
      go_ret
      refine ⟨_, rfl, ?_, hbel⟩
      rw [← HX2.out]
      exact hown
end Go.Proofs.YthjkjlpiiejkmaaDoor
