/- Blocks of powers of two: how numbers are cut into them; how many frames they cover. No word of the program. -/
import Derived.Test.YtbpihdeinkopfaaDoorUMath2
import Derived.Test.YtbpihdeinkopfaaDoorWCutM
namespace Go.Proofs.YtbpihdeinkopfaaDoor

/-- A run, in blocks of at most 32. -/
def spl (r : Bk) : List Bk := (List.range (2 ^ (r.2 - min r.2 5))).map fun k => (r.1 + k * 2 ^ min r.2 5, min r.2 5)
def blkL (f t : Nat) : List Bk := (cutL f t).flatMap spl
theorem spl_many (f T : Nat) (hd : 32 ∣ f) : ∀ n, Cvr f (f + n * 32) T ((List.range n).map fun k => (f + k * 2 ^ 5, 5))
  | 0 => by simpa using Cvr.nil f T
  | n + 1 => by
    rw [List.range_succ, List.map_append]
    refine (spl_many f T hd n).app (t := f + (n + 1) * 32) (m := f + n * 32) ?_ (by omega) (by omega)
    have := Cvr.one (f := f + n * 32) (o := 5) (T := T) (by omega) (Nat.dvd_add hd ⟨n, by omega⟩) (by omega)
    rw [show f + n * 32 + 2 ^ 5 = f + (n + 1) * 32 by omega] at this
    simpa using this
theorem spl_cvr (r : Bk) (T : Nat) (hd : 2 ^ r.2 ∣ r.1) (hg : r.2 < 5 → 2 ^ (r.2 + 1) ∣ r.1 → T < r.1 + 2 ^ (r.2 + 1)) : Cvr r.1 (r.1 + 2 ^ r.2) T (spl r) := by
  obtain ⟨f, o⟩ := r
  simp only at *
  rcases Nat.lt_or_ge 5 o with h | h
  · have e : min o 5 = 5 := by omega
    have hp : 2 ^ o = 2 ^ (o - 5) * 32 := by
      rw [show (32 : Nat) = 2 ^ 5 by rfl, ← Nat.pow_add]
      congr 1
      omega
    have := spl_many f T (Nat.dvd_trans ⟨2 ^ (o - 5), by rw [hp, Nat.mul_comm]⟩ hd) (2 ^ (o - 5))
    rw [← hp] at this
    unfold spl
    rw [e]
    exact this
  · have e : min o 5 = o := by omega
    unfold spl
    rw [e, Nat.sub_self]
    simpa using Cvr.one h hd hg
theorem blkL_cvr (n : Nat) : ∀ (f t : Nat), t - f ≤ n → f ≤ t → t ≤ 1048576 → Cvr f t t (blkL f t) := by
  induction n with
  | zero =>
    intro f t h1 h2 _
    obtain rfl : f = t := by omega
    unfold blkL
    rw [cutL_ge f f (Nat.le_refl _)]
    exact Cvr.nil f f
  | succ n ih =>
    intro f t h1 h2 h3
    rcases Nat.lt_or_ge f t with h | h
    · have ho := ordN_fits f t h h3
      have hp := Nat.two_pow_pos (ordN f t)
      unfold blkL
      rw [cutL_lt f t h, List.flatMap_cons]
      refine (spl_cvr (f, ordN f t) t (Nat.dvd_of_mod_eq_zero ho.1) ?_).app (ih (f + 2 ^ ordN f t) t (by omega) ho.2 h3) (by simp) ho.2
      intro h5 hd
      simp only at h5 hd ⊢
      rcases Nat.lt_or_ge t (f + 2 ^ (ordN f t + 1)) with c | c
      · exact c
      · exfalso
        have := (ordN_lt_iff f t (ordN f t) h h3).2 ⟨by omega, Nat.mod_eq_zero_of_dvd hd, c⟩
        omega
    · obtain rfl : f = t := by omega
      unfold blkL
      rw [cutL_ge f f (Nat.le_refl _)]
      exact Cvr.nil f f
theorem blk_cvr {f t : Nat} (h : f ≤ t) (ht : t ≤ 1048576) : Cvr f t t (blkL f t) := blkL_cvr (t - f) f t (Nat.le_refl _) h ht

theorem sorted_len : ∀ (l : List Bk) (f t : Nat), l.Pairwise (fun a b => bend a ≤ b.1) → (∀ b ∈ l, f ≤ b.1 ∧ bend b ≤ t) → l.length ≤ t - f
  | [], _, _, _, _ => by simp
  | b :: l, f, t, hp, h => by
    obtain ⟨h1, h2⟩ := List.pairwise_cons.1 hp
    have hb := h b (by simp)
    have hbe := bend_pos b
    have := sorted_len l (bend b) t h2 fun c hc => ⟨h1 c hc, (h c (by simp [hc])).2⟩
    rw [List.length_cons]
    omega
theorem Cvr.len {f t T : Nat} {l : List Bk} (h : Cvr f t T l) : l.length ≤ t - f := sorted_len l f t h.sorted fun b hb => (h.al b hb).2

/-- How many frames. -/
def size (L : List Bk) : Nat := (L.map fun b => 2 ^ b.2).sum
def covB (L : List Bk) (x : Nat) : Bool := L.any fun b => decide (b.1 ≤ x) && decide (x < bend b)
theorem covB_iff (L : List Bk) (x : Nat) : covB L x = true ↔ cov L x := by simp [covB, cov, inB]
theorem covB_false (L : List Bk) (x : Nat) : covB L x = false ↔ ¬ cov L x := by rw [← covB_iff]; simp
theorem covB_eq {L M : List Bk} {x : Nat} (h : cov L x ↔ cov M x) : covB L x = covB M x := by
  by_cases c : cov M x
  · rw [(covB_iff M x).2 c, (covB_iff L x).2 (h.2 c)]
  · rw [(covB_false M x).2 c, (covB_false L x).2 fun e => c (h.1 e)]
def cnt (F : Nat → Bool) : Nat → Nat
  | 0 => 0
  | n + 1 => cnt F n + if F n then 1 else 0
theorem cnt_same {F G : Nat → Bool} : ∀ (n : Nat), (∀ x, x < n → F x = G x) → cnt F n = cnt G n
  | 0, _ => rfl
  | n + 1, h => by rw [cnt, cnt, cnt_same n fun x hx => h x (by omega), h n (by omega)]
theorem cnt_flip {F G : Nat → Bool} (a k : Nat) : ∀ (n : Nat), (∀ x, x < n → a ≤ x → x < a + k → F x = false ∧ G x = true) → (∀ x, x < n → ¬ (a ≤ x ∧ x < a + k) → F x = G x) → cnt G n = cnt F n + (min n (a + k) - a)
  | 0, _, _ => by simp [cnt]
  | n + 1, h1, h2 => by
    have ih := cnt_flip a k n (fun x hx => h1 x (by omega)) (fun x hx => h2 x (by omega))
    rw [cnt, cnt, ih]
    by_cases c : a ≤ n ∧ n < a + k
    · have := h1 n (by omega) c.1 c.2
      rw [this.1, this.2]
      simp
      omega
    · rw [h2 n (by omega) c]
      omega
/-- A block more. -/
theorem cnt_more {F G : Nat → Bool} {n : Nat} (b : Bk) (hb : bend b ≤ n) (h1 : ∀ x, inB b x → F x = false ∧ G x = true) (h2 : ∀ x, ¬ inB b x → F x = G x) : cnt G n = cnt F n + 2 ^ b.2 := by
  have := cnt_flip b.1 (2 ^ b.2) n (fun x _ ha hb => h1 x ⟨ha, hb⟩) (fun x _ hn => h2 x hn)
  rw [this]
  unfold bend at hb
  rw [Nat.min_eq_right hb, Nat.add_sub_cancel_left]
theorem size_cnt : ∀ (L : List Bk) (n : Nat), L.Pairwise (fun a b => bend a ≤ b.1) → (∀ b ∈ L, bend b ≤ n) → size L = cnt (covB L) n
  | [], n, _, _ => by
    have : ∀ n, cnt (covB []) n = 0 := fun n => by
      induction n with
      | zero => rfl
      | succ n ih => rw [cnt, ih]; simp [covB]
    rw [this]
    rfl
  | b :: L, n, hp, h => by
    obtain ⟨h1, h2⟩ := List.pairwise_cons.1 hp
    have ih := size_cnt L n h2 fun c hc => h c (by simp [hc])
    have e : size (b :: L) = 2 ^ b.2 + size L := by simp [size]
    have hn : ∀ x, inB b x → ¬ cov L x := by
      rintro x hx ⟨c, hc, hxc⟩
      have := h1 c hc
      have := hx.2
      have := hxc.1
      omega
    rw [e, ih, cnt_more (F := covB L) (G := covB (b :: L)) b (h b (by simp)) (fun x hx => ⟨(covB_false _ _).2 (hn x hx), (covB_iff _ _).2 (cov_cons.2 (Or.inl hx))⟩) (fun x hx => covB_eq (by rw [cov_cons]; exact ⟨Or.inr, fun h => h.elim (fun h' => absurd h' hx) id⟩))]
    omega
theorem cnt_all : ∀ (F : Nat → Bool) (n : Nat), (∀ x, x < n → F x = true) → cnt F n = n
  | _, 0, _ => rfl
  | F, n + 1, h => by rw [cnt, cnt_all F n fun x hx => h x (by omega), h n (by omega)]; rfl
end Go.Proofs.YtbpihdeinkopfaaDoor
