/- How runs are cut: their orders, and the list of them. No word of the program. -/
import Derived.Lib.TrailingZeros
import Derived.Lib.BitFns
import Derived.Laws.BitsAllLaws
namespace Go.Proofs.YtbpihdeinkopfaaDoor
theorem ctz_dvd (f o : Nat) (h0 : 0 < f) (h : f < 2 ^ 64) : f % 2 ^ o = 0 ↔ o ≤ Lib.ctz 64 f := by
  obtain ⟨m, hm, _⟩ := Lib.ctzFrom_spec 64 f h0 h
  have e : Lib.ctz 64 f = Lib.ctzFrom 64 f := by simp [Lib.ctz, show f ≠ 0 from by omega]
  rw [e]
  generalize Lib.ctzFrom 64 f = c at *
  constructor
  · intro hd
    apply Nat.le_of_not_lt
    intro hlt
    obtain ⟨d, rfl⟩ : ∃ d, o = c + (d + 1) := ⟨o - c - 1, by omega⟩
    obtain ⟨q, hq⟩ := Nat.dvd_of_mod_eq_zero hd
    rw [hq, Nat.pow_add, Nat.mul_assoc] at hm
    have := Nat.eq_of_mul_eq_mul_left (Nat.two_pow_pos c) hm
    rw [Nat.pow_succ, Nat.mul_comm (2 ^ d) 2, Nat.mul_assoc] at this
    omega
  · intro hle
    apply Nat.mod_eq_zero_of_dvd
    rw [hm]
    exact Nat.dvd_trans (Nat.pow_dvd_pow 2 hle) (Nat.dvd_mul_right _ _)

theorem ctz_lt (f : Nat) (h0 : 0 < f) (h : f < 2 ^ 64) : Lib.ctz 64 f < 64 := (Lib.lowest_bit 64 f (by omega) h).2

theorem ctz_pow (k : Nat) (h : k < 64) : Lib.ctz 64 (2 ^ k) = k := by
  have h2 : 2 ^ k < 2 ^ 64 := Nat.pow_lt_pow_right (by decide) h
  have a := (ctz_dvd (2 ^ k) k (Nat.two_pow_pos k) h2).1 (Nat.mod_self _)
  have b : ¬ k + 1 ≤ Lib.ctz 64 (2 ^ k) := by
    rw [← ctz_dvd (2 ^ k) (k + 1) (Nat.two_pow_pos k) h2, Nat.mod_eq_of_lt (Nat.pow_lt_pow_right (by decide) (by omega))]
    have := Nat.two_pow_pos k
    omega
  omega

/-- n & (n - 1) is 0 just where n is a power of two. -/
theorem pow_of_and (n : Nat) (h0 : 0 < n) (h : n < 2 ^ 64) (ha : n &&& (n - 1) = 0) : n = 2 ^ Lib.ctz 64 n := by
  obtain ⟨m, hm, hc⟩ := Lib.ctzFrom_spec 64 n h0 h
  have e : Lib.ctz 64 n = Lib.ctzFrom 64 n := by simp [Lib.ctz, show n ≠ 0 from by omega]
  rw [e]
  generalize Lib.ctzFrom 64 n = c at *
  cases m with
  | zero => simpa using hm
  | succ m =>
    exfalso
    have hp := Nat.two_pow_pos c
    -- the bits above c of n and of n - 1 are those of m + 1
    have h1 : n / 2 ^ (c + 1) = m + 1 := by
      rw [hm, Nat.pow_succ, ← Nat.div_div_eq_div_mul, Nat.mul_div_cancel_left _ hp]; omega
    have h2 : (n - 1) / 2 ^ (c + 1) = m + 1 := by
      have : n - 1 = 2 ^ c * (2 * (m + 1)) + (2 ^ c - 1) := by
        rw [hm, Nat.mul_add, Nat.mul_one]; omega
      rw [this, Nat.pow_succ, ← Nat.div_div_eq_div_mul, Nat.mul_add_div hp, Nat.div_eq_of_lt (Nat.sub_lt hp (by decide))]; omega
    have h3 : (n &&& (n - 1)) / 2 ^ (c + 1) = (m + 1) &&& (m + 1) := by
      rw [Nat.and_div_two_pow, h1, h2]
    rw [ha, Nat.and_self, Nat.zero_div] at h3
    omega

theorem and_of_pow (k : Nat) : 2 ^ k &&& (2 ^ k - 1) = 0 := by
  rw [Nat.and_two_pow_sub_one_eq_mod, Nat.mod_self]

theorem bitLen_lt_iff (x o : Nat) (_h0 : 0 < x) (h : x < 2 ^ 64) : 2 ^ o ≤ x ↔ o < Lib.bitLen x := by
  constructor
  · intro ho
    have := Lib.bitLen_shift o x ho h
    have h1 : 1 ≤ x / 2 ^ o := by rw [Nat.le_div_iff_mul_le (Nat.two_pow_pos o)]; omega
    have h2 : x / 2 ^ o < 2 ^ 64 := Nat.lt_of_le_of_lt (Nat.div_le_self _ _) h
    have := Lib.bitLen_half (x / 2 ^ o) (by omega) h2
    omega
  · intro ho
    apply Nat.le_of_not_lt
    intro hlt
    by_cases h64 : o ≤ 64
    · have := Lib.bitLen_le x o h64 hlt
      omega
    · have := Lib.bitLen_le x 64 (by omega) h
      omega

/-! ### runs -/
/-- The order of the longest run from f on, up to t. -/
def ordN (f t : Nat) : Nat := min (min (Lib.ctz 64 f) (Lib.bitLen (t - f) - 1)) 20

theorem ordN_lt_iff (f t o : Nat) (h : f < t) (ht : t ≤ 1048576) : o < ordN f t ↔ o < 20 ∧ f % 2 ^ (o + 1) = 0 ∧ f + 2 ^ (o + 1) ≤ t := by
  have hb := bitLen_lt_iff (t - f) (o + 1) (by omega) (by omega)
  unfold ordN
  by_cases h0 : f = 0
  · subst h0
    have e : Lib.ctz 64 0 = 64 := rfl
    rw [e]
    simp only [Nat.zero_mod, true_and, Nat.sub_zero] at *
    omega
  · have hc := ctz_dvd f (o + 1) (by omega) (by omega)
    omega

theorem ordN_le (f t : Nat) : ordN f t ≤ 20 := by unfold ordN; omega

theorem ordN_fits (f t : Nat) (h : f < t) (ht : t ≤ 1048576) : f % 2 ^ ordN f t = 0 ∧ f + 2 ^ ordN f t ≤ t := by
  cases ho : ordN f t with
  | zero => simp; omega
  | succ o =>
    have := (ordN_lt_iff f t o h ht).1 (by omega)
    exact this.2

theorem ordN_one (k o : Nat) (ho : o < 20) (h : k * 2 ^ o + 2 ^ o ≤ 1048576) : ordN (k * 2 ^ o) (k * 2 ^ o + 2 ^ o) = o := by
  have hp := Nat.two_pow_pos o
  have a : ¬ o < ordN (k * 2 ^ o) (k * 2 ^ o + 2 ^ o) := by
    rw [ordN_lt_iff _ _ _ (by omega) h, Nat.pow_succ]
    omega
  cases o with
  | zero => omega
  | succ o =>
    have b := (ordN_lt_iff (k * 2 ^ (o + 1)) (k * 2 ^ (o + 1) + 2 ^ (o + 1)) o (by omega) h).2 ⟨by omega, Nat.mul_mod_left _ _, Nat.le_refl _⟩
    omega

/-- The runs, with fuel. -/
def cutF : Nat → Nat → Nat → List (Nat × Nat)
  | 0, _, _ => []
  | k + 1, f, t => if f < t then (f, ordN f t) :: cutF k (f + 2 ^ ordN f t) t else []

/-- The runs from f on up to t. -/
def cutL (f t : Nat) : List (Nat × Nat) := cutF (t - f) f t

theorem cutF_same : ∀ (k k' f t : Nat), t - f ≤ k → t - f ≤ k' → cutF k f t = cutF k' f t := by
  intro k
  induction k with
  | zero =>
    intro k' f t h _
    cases k' with
    | zero => rfl
    | succ k' => rw [cutF, cutF, if_neg (by omega)]
  | succ k ih =>
    intro k' f t h h'
    cases k' with
    | zero => rw [cutF, cutF, if_neg (by omega)]
    | succ k' =>
      rw [cutF, cutF]
      have hp := Nat.two_pow_pos (ordN f t)
      by_cases hft : f < t
      · rw [if_pos hft, if_pos hft, ih k' _ _ (by omega) (by omega)]
      · rw [if_neg hft, if_neg hft]

theorem cutL_lt (f t : Nat) (h : f < t) : cutL f t = (f, ordN f t) :: cutL (f + 2 ^ ordN f t) t := by
  unfold cutL
  obtain ⟨d, hd⟩ : ∃ d, t - f = d + 1 := ⟨t - f - 1, by omega⟩
  have hp := Nat.two_pow_pos (ordN f t)
  rw [hd, cutF, if_pos h, cutF_same d (t - (f + 2 ^ ordN f t)) _ _ (by omega) (by omega)]

theorem cutL_ge (f t : Nat) (h : t ≤ f) : cutL f t = [] := by
  unfold cutL
  rw [show t - f = 0 from by omega, cutF]

theorem cutL_length (n : Nat) : ∀ (f t : Nat), t - f ≤ n → (cutL f t).length ≤ t - f := by
  induction n with
  | zero => intro f t h; rw [cutL_ge _ _ (by omega)]; simp
  | succ n ih =>
    intro f t h
    by_cases hft : f < t
    · have hp := Nat.two_pow_pos (ordN f t)
      have := ih (f + 2 ^ ordN f t) t (by omega)
      rw [cutL_lt _ _ hft, List.length_cons]
      omega
    · rw [cutL_ge _ _ (by omega)]; simp

theorem cutL_one (k o : Nat) (ho : o < 20) (h : k * 2 ^ o + 2 ^ o ≤ 1048576) : cutL (k * 2 ^ o) (k * 2 ^ o + 2 ^ o) = [(k * 2 ^ o, o)] := by
  have hp := Nat.two_pow_pos o
  rw [cutL_lt _ _ (by omega), ordN_one k o ho h, cutL_ge _ _ (Nat.le_refl _)]

/-- Runs as they lie in memory: two numbers each. -/
def runCells (l : List (Nat × Nat)) : List Value := l.flatMap fun r => [Value.int .i64 r.1, Value.int .i64 r.2]

theorem runCells_append (a b : List (Nat × Nat)) : runCells (a ++ b) = runCells a ++ runCells b := by simp [runCells]
theorem runCells_length (l : List (Nat × Nat)) : (runCells l).length = l.length * 2 := by
  induction l with
  | nil => rfl
  | cons a l ih => simp only [runCells, List.flatMap_cons, List.length_append, List.length_cons, List.length_nil] at *; omega
theorem runCells_first : ∀ (l : List (Nat × Nat)) (i : Nat), i < l.length → (runCells l)[i * 2]? = some (.int .i64 (l.getD i (0, 0)).1)
  | a :: l, 0, _ => by simp [runCells]
  | a :: l, i + 1, h => by
    have := runCells_first l i (by simpa using h)
    have e : (i + 1) * 2 = i * 2 + 2 := by omega
    rw [e]
    simpa [runCells] using this
theorem runCells_second : ∀ (l : List (Nat × Nat)) (i : Nat), i < l.length → (runCells l)[i * 2 + 1]? = some (.int .i64 (l.getD i (0, 0)).2)
  | a :: l, 0, _ => by simp [runCells]
  | a :: l, i + 1, h => by
    have := runCells_second l i (by simpa using h)
    have e : (i + 1) * 2 + 1 = i * 2 + 1 + 2 := by omega
    rw [e]
    simpa [runCells] using this

end Go.Proofs.YtbpihdeinkopfaaDoor
