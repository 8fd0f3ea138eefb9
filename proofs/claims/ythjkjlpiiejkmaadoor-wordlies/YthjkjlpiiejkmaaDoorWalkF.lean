/- WordLies answers true for all arguments; condition: the table lies as its text lays it. -/
import Derived.Test.YthjkjlpiiejkmaaDoorWalkE
namespace Go.Proofs.YthjkjlpiiejkmaaDoor
open Go.RowKit

/-- What the loop knows of a cut: where each run begins. -/
theorem cutL_at (n : Nat) : ∀ (f t : Nat), t - f ≤ n → t ≤ 1048576 → f ≤ t → ∀ i, i < (cutL f t).length → ∃ g, f ≤ g ∧ g < t ∧ (cutL f t).drop i = cutL g t ∧ (cutL f t).getD i (0, 0) = (g, ordN g t) := by
  induction n with
  | zero =>
    intro f t h _ hft i hi
    rw [cutL_ge _ _ (by omega)] at hi
    simp at hi
  | succ n ih =>
    intro f t h ht hft i hi
    by_cases hlt : f < t
    · have hp := Nat.two_pow_pos (ordN f t)
      have hfit := (ordN_fits f t hlt ht).2
      cases i with
      | zero => exact ⟨f, Nat.le_refl _, hlt, rfl, by rw [cutL_lt f t hlt]; rfl⟩
      | succ i =>
        rw [cutL_lt f t hlt] at hi ⊢
        obtain ⟨g, h1, h2, h3, h4⟩ := ih (f + 2 ^ ordN f t) t (by omega) ht hfit i (by simpa using hi)
        exact ⟨g, by omega, h2, by simpa using h3, by simpa using h4⟩
    · rw [cutL_ge _ _ (by omega)] at hi
      simp at hi

/-- The next run begins where this one ends; two halves of one run are never neighbours. -/
theorem no_halves (f t g : Nat) (ht : t ≤ 1048576) (hf : f < t) (hg : g = f + 2 ^ ordN f t) (hgt : g < t) (heq : ordN f t = ordN g t) (ho : ordN f t < 20) : f % (2 * 2 ^ ordN f t) ≠ 0 := by
  intro hm
  have h2 := (ordN_fits g t hgt ht).2
  have := (ordN_lt_iff f t (ordN f t) hf ht).2 ⟨ho, by rw [Nat.pow_succ, Nat.mul_comm]; exact hm, by rw [Nat.pow_succ]; rw [← heq] at h2; omega⟩
  omega

/-- How the loop stands: what is left is the cut of what is left; and the run ahead, if there is one. -/
def Left (l : List (Nat × Nat)) (t k g : Nat) : Prop :=
  k ≤ l.length ∧ g ≤ t ∧ l.drop k = cutL g t ∧ (0 < k → ∃ f, f < t ∧ l.getD (k - 1) (0, 0) = (f, ordN f t) ∧ g = f + 2 ^ ordN f t)

theorem Left.here {l : List (Nat × Nat)} {t k g : Nat} (h : Left l t k g) (hk : k < l.length) : g < t ∧ l.getD k (0, 0) = (g, ordN g t) := by
  obtain ⟨_, h2, h3, _⟩ := h
  have hg : g < t := by
    apply Nat.lt_of_not_le
    intro hge
    rw [cutL_ge _ _ hge] at h3
    have := congrArg List.length h3
    simp at this
    omega
  refine ⟨hg, ?_⟩
  rw [cutL_lt g t hg] at h3
  have h4 : (l.drop k)[0]? = some (g, ordN g t) := by rw [h3]; rfl
  rw [List.getElem?_drop] at h4
  simp only [Nat.add_zero] at h4
  rw [List.getD, h4]; rfl
theorem Left.next {l : List (Nat × Nat)} {t k g : Nat} (h : Left l t k g) (ht : t ≤ 1048576) (hk : k < l.length) : Left l t (k + 1) (g + 2 ^ ordN g t) := by
  obtain ⟨hg, he⟩ := h.here hk
  obtain ⟨_, h2, h3, _⟩ := h
  refine ⟨hk, (ordN_fits g t hg ht).2, ?_, fun _ => ⟨g, hg, he, rfl⟩⟩
  rw [cutL_lt g t hg] at h3
  rw [← List.drop_drop, h3]; rfl
theorem Left.done {l : List (Nat × Nat)} {t k g : Nat} (h : Left l t k g) (hk : k = l.length) : g = t := by
  obtain ⟨_, h2, h3, _⟩ := h
  apply Nat.le_antisymm h2
  apply Nat.le_of_not_lt
  intro hlt
  rw [hk, List.drop_length, cutL_lt g t hlt] at h3
  cases h3

set_option maxHeartbeats 2000000 in
set_option maxRecDepth 100000 in
theorem walk_wordLies (f t : Int) (w : World) (hT : Tab w) (_hf : -9223372036854775808 ≤ f ∧ f ≤ 9223372036854775807) (_ht : -9223372036854775808 ≤ t ∧ t ≤ 9223372036854775807) :
    Calls Tryd.prog 8 #[.int .i64 f, .int .i64 t] w fun e w' => e = .returned (.bool true) ∧ Below w.heap.size w w' := by
  by_cases hr : 0 ≤ f ∧ f ≤ t ∧ t ≤ 1048576
  · obtain ⟨r1, r2, r3⟩ := hr
    obtain ⟨f, rfl⟩ := Int.eq_ofNat_of_zero_le r1
    obtain ⟨t, rfl⟩ := Int.eq_ofNat_of_zero_le (show 0 ≤ t by omega)
    have hlen := cutL_length (t - f) f t (Nat.le_refl _)
    have s1 : f ≤ t := by omega
    have s2 : t ≤ 1048576 := by omega
    go_enter Tryd.func8, Tryd.ntmps8
    go_wp2_with fail
    refine (up_any _ hT).mono ?_
    rintro e w1 ⟨rfl, hbel⟩
    go_wp2_with fail
    refine (cut_yes f t _ (hT.below hbel (Nat.le_refl _)) s1 s2).mono ?_
    rintro e w2 ⟨v, rfl, hown, hbel2⟩
    obtain ⟨ao, cap, rfl, htell⟩ := tells_of_owned hown
    clear hown
    have hB : Below w.heap.size w w2 := hbel.trans (hbel2.mono hbel.size)
    clear hbel hbel2
    have T1 : Hid _ := htell
    have HL0 : Hid (Left (cutL f t) t 0 f) := ⟨Nat.zero_le _, s1, rfl, fun h => absurd h (by omega)⟩
    clear htell
    obtain ⟨l, hl⟩ : ∃ l, l = cutL f t := ⟨_, rfl⟩
    rw [← hl] at hlen T1 HL0 ⊢
    clear hl
    go_wp2
    go_loopw [8, 9] (fun a i wr => ∃ k g : Nat, i = .int .i64 k ∧ a = .int .i64 g ∧ Left l t k g ∧ Tells wr ao l ∧ Below w.heap.size w wr) (fun _ i _ => l.length - (intOf i).toNat)
    case atStart => exact ⟨0, f, rfl, rfl, HL0.out, T1.out, hB⟩
    case round =>
      obtain ⟨k, g, rfl, rfl, hL, hA, hBr⟩ := hrel
      have hkl := hL.1
      clear T1 HL0
      by_cases hlt : k < l.length
      · obtain ⟨hg, he⟩ := hL.here hlt
        obtain ⟨gb, rfl, a1, a2⟩ := hA k hlt
        rw [he] at a1 a2
        simp only at a1 a2
        have hol := ordN_le g t
        obtain ⟨hfm, hft⟩ := ordN_fits g t hg s2
        have p0 := pw_pos (ordN g t)
        have p1 := pw_small (ordN g t) (by omega)
        have pm : (g : Int) % pw (ordN g t) = 0 := (pw_mod g (ordN g t)).2 hfm
        have pa := (pw_add g t (ordN g t)).2 hft
        have HN : Hid _ := hL.next s2 hlt
        have HA : Hid _ := hA
        cases k with
        | zero =>
          clear hL hA he hfm hft
          go_wp2_with (go_at_call 19; refine (power_any (ordN g t) _ (by omega)).mono ?_; rintro e w2 ⟨rfl, hw⟩; obtain rfl := hw.symm; clear hw)
          go_quiet (fail)
          go_wp2
          go_roundw
          case rel => exact ⟨1, g + 2 ^ ordN g t, by go_num, by simp [pw], HN.out, Tells.drewN HA.out _, below_drewN hBr _⟩
          case measure => simp [intOf]; omega
        | succ k =>
          obtain ⟨f', hf't, hp, hgf⟩ := hL.2.2.2 (by omega)
          obtain ⟨gb', hgb, b1, b2⟩ := hA k (by omega)
          obtain rfl : gb = gb' := by simpa using hgb
          rw [show k + 1 - 1 = k from rfl] at hp
          rw [hp] at b1 b2
          simp only at b1 b2
          have hol' := ordN_le f' t
          have hcase : ((ordN f' t : Int) == (ordN g t : Int)) = false ∨ (((ordN f' t : Int) == (ordN g t : Int)) = true ∧ ((f' : Int) % (2 * pw (ordN g t)) == 0) = false) ∨
              (((ordN f' t : Int) == (ordN g t : Int)) = true ∧ ((f' : Int) % (2 * pw (ordN g t)) == 0) = true ∧ decide ((ordN g t : Int) < 20) = false) := by
            by_cases c1 : ordN f' t = ordN g t
            · by_cases c2 : (f' : Int) % (2 * pw (ordN g t)) = 0
              · refine .inr (.inr ⟨by rw [c1]; simp, by simpa using c2, ?_⟩)
                rw [decide_eq_false_iff_not]
                intro c3
                refine no_halves f' t g s2 hf't hgf hg c1 (by omega) ?_
                rw [c1]
                unfold pw at c2
                rw [show (2 : Int) * ((2 ^ ordN g t : Nat) : Int) = ((2 * 2 ^ ordN g t : Nat) : Int) from by simp] at c2
                omega
              · exact .inr (.inl ⟨by rw [c1]; simp, by simpa using c2⟩)
            · exact .inl (by simp only [beq_eq_false_iff_ne, ne_eq]; omega)
          clear hL hA he hfm hft hp hgf hgb
          rcases hcase with c1 | ⟨c1, c2⟩ | ⟨c1, c2, c3⟩
          all_goals
            go_wp2_with (go_at_call 19; refine (power_any (ordN g t) _ (by omega)).mono ?_; rintro e w2 ⟨rfl, hw⟩; obtain rfl := hw.symm; clear hw)
            go_quiet (fail)
            go_wp2
            go_roundw
            case rel => exact ⟨k + 2, g + 2 ^ ordN g t, by go_num, by simp [pw], HN.out, Tells.drewN HA.out _, below_drewN hBr _⟩
            case measure => simp [intOf]; omega
      · have : k = l.length := by omega
        subst this
        obtain rfl := hL.done rfl
        clear hL hA
        go_wp2
        go_ret
        exact ⟨rfl, hBr⟩
  · have HR : Hid _ := hr
    clear hr
    go_enter Tryd.func8, Tryd.ntmps8
    go_wp2_with fail
    refine (up_any _ hT).mono ?_
    rintro e w1 ⟨rfl, hbel⟩
    go_wp2_with (go_at_call 22; refine (cut_no _ _ _ HR.out).mono ?_; rintro e w2 ⟨rfl, hw⟩; obtain rfl := hw.symm; clear hw)
    go_ret
    exact ⟨rfl, hbel⟩
end Go.Proofs.YthjkjlpiiejkmaaDoor
