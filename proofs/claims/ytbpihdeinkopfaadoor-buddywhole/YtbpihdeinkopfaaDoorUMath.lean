/- Blocks of powers of two, lists of them that are told by what they cover. No word of the program. -/
namespace Go.Proofs.YtbpihdeinkopfaaDoor

abbrev Bk := Nat × Nat
/-- Where a block ends. -/
def bend (b : Bk) : Nat := b.1 + 2 ^ b.2
def inB (b : Bk) (x : Nat) : Prop := b.1 ≤ x ∧ x < bend b
def cov (L : List Bk) (x : Nat) : Prop := ∃ b ∈ L, inB b x
def alB (b : Bk) : Prop := b.2 ≤ 5 ∧ 2 ^ b.2 ∣ b.1
theorem bend_pos (b : Bk) : b.1 < bend b := by unfold bend; have := Nat.two_pow_pos b.2; omega

theorem cov_cons {a : Bk} {L : List Bk} {x : Nat} : cov (a :: L) x ↔ inB a x ∨ cov L x := by simp [cov]
theorem cov_append {L M : List Bk} {x : Nat} : cov (L ++ M) x ↔ cov L x ∨ cov M x := by
  simp only [cov, List.mem_append]
  constructor
  · rintro ⟨b, h | h, hb⟩
    · exact Or.inl ⟨b, h, hb⟩
    · exact Or.inr ⟨b, h, hb⟩
  · rintro (⟨b, h, hb⟩ | ⟨b, h, hb⟩)
    · exact ⟨b, Or.inl h, hb⟩
    · exact ⟨b, Or.inr h, hb⟩
theorem cov_nil {x : Nat} : ¬ cov [] x := by simp [cov]

theorem mul_le_of {m i j : Nat} (h : m * i < m * j + m) : i ≤ j := by
  have h' : m * i < m * (j + 1) := by rw [Nat.mul_add]; omega
  have := Nat.lt_of_mul_lt_mul_left h'
  omega
theorem mul_lt_of {m i j : Nat} (h : m * i < m * j) : i + 1 ≤ j := Nat.lt_of_mul_lt_mul_left h
/-- Two aligned blocks that meet: the one lies in the other. -/
theorem nest {a b : Bk} (ha : 2 ^ a.2 ∣ a.1) (hb : 2 ^ b.2 ∣ b.1) (h : a.2 ≤ b.2) {x : Nat} (h1 : inB a x) (h2 : inB b x) : b.1 ≤ a.1 ∧ bend a ≤ bend b := by
  obtain ⟨a1, o⟩ := a
  obtain ⟨b1, p⟩ := b
  simp only [inB, bend] at *
  obtain ⟨d, rfl⟩ : ∃ d, p = o + d := ⟨p - o, by omega⟩
  obtain ⟨i, hi⟩ := ha
  obtain ⟨j, hj⟩ := hb
  rw [Nat.pow_add] at *
  generalize 2 ^ o = m at *
  generalize 2 ^ d = n at *
  rw [Nat.mul_assoc] at hj
  have k1 : n * j ≤ i := mul_le_of (m := m) (by omega)
  have k2 : i + 1 ≤ n * j + n := mul_lt_of (m := m) (by rw [Nat.mul_add]; omega)
  have k3 := Nat.mul_le_mul_left m k1
  have k4 := Nat.mul_le_mul_left m k2
  rw [Nat.mul_add, Nat.mul_add] at k4
  omega

/-- A list of blocks: aligned, by rising frames, none meeting another one; no left half whose other half is covered. -/
structure Good (L : List Bk) : Prop where
  al : ∀ b ∈ L, alB b
  sorted : L.Pairwise fun a b => bend a ≤ b.1
  left : ∀ b ∈ L, b.2 < 5 → 2 ^ (b.2 + 1) ∣ b.1 → ∃ x, b.1 ≤ x ∧ x < b.1 + 2 ^ (b.2 + 1) ∧ ¬ cov L x

theorem Good.nil : Good [] := ⟨by simp, List.Pairwise.nil, by simp⟩
theorem cov_sub {L M : List Bk} (h : L.Sublist M) {x : Nat} (hc : cov L x) : cov M x := by
  obtain ⟨b, hb, hx⟩ := hc
  exact ⟨b, h.subset hb, hx⟩
theorem Good.sub {L M : List Bk} (g : Good M) (h : L.Sublist M) : Good L :=
  ⟨fun b hb => g.al b (h.subset hb), g.sorted.sublist h, fun b hb h5 hd => by
    obtain ⟨x, h1, h2, h3⟩ := g.left b (h.subset hb) h5 hd
    exact ⟨x, h1, h2, fun hc => h3 (cov_sub h hc)⟩⟩

/-- A block that is covered lies in one of them. -/
theorem Good.within {L : List Bk} (g : Good L) {c : Bk} (hc : 2 ^ c.2 ∣ c.1) (hk : c.2 ≤ 5) (h : ∀ x, inB c x → cov L x) : ∃ b ∈ L, b.1 ≤ c.1 ∧ bend c ≤ bend b ∧ c.2 ≤ b.2 := by
  have h0 : inB c c.1 := ⟨Nat.le_refl _, bend_pos c⟩
  obtain ⟨b, hb, hx⟩ := h c.1 h0
  refine ⟨b, hb, ?_⟩
  rcases Nat.lt_or_ge b.2 c.2 with h1 | h1
  · exfalso
    have hn := nest (g.al b hb).2 hc (by omega) hx h0
    have e : b.1 = c.1 := by have := hx.1; omega
    have hd : 2 ^ (b.2 + 1) ∣ b.1 := by
      rw [e]
      exact Nat.dvd_trans (Nat.pow_dvd_pow 2 (by omega)) hc
    obtain ⟨x, x1, x2, x3⟩ := g.left b hb (by omega) hd
    have hp : 2 ^ (b.2 + 1) ≤ 2 ^ c.2 := Nat.pow_le_pow_right (by omega) (by omega)
    exact x3 (h x ⟨by omega, by unfold bend; omega⟩)
  · have hn := nest hc (g.al b hb).2 h1 h0 hx
    exact ⟨hn.1, hn.2, h1⟩

theorem Good.head_le {a : Bk} {L : List Bk} (g : Good (a :: L)) {x : Nat} (h : cov (a :: L) x) : a.1 ≤ x := by
  rcases cov_cons.1 h with h | ⟨b, hb, hx⟩
  · exact h.1
  · have := (List.pairwise_cons.1 g.sorted).1 b hb
    have := bend_pos a
    have := hx.1
    omega
theorem Good.head_ge {a b : Bk} {L M : List Bk} (g : Good (a :: L)) (g' : Good (b :: M)) (h : ∀ x, cov (a :: L) x ↔ cov (b :: M) x) (e : a.1 = b.1) : b.2 ≤ a.2 := by
  rcases Nat.lt_or_ge a.2 b.2 with h1 | h1
  · exfalso
    have hb5 := (g'.al b (by simp)).1
    have hd : 2 ^ (a.2 + 1) ∣ a.1 := by
      rw [e]
      exact Nat.dvd_trans (Nat.pow_dvd_pow 2 (by omega)) (g'.al b (by simp)).2
    obtain ⟨x, x1, x2, x3⟩ := g.left a (by simp) (by omega) hd
    have hp : 2 ^ (a.2 + 1) ≤ 2 ^ b.2 := Nat.pow_le_pow_right (by omega) (by omega)
    exact x3 ((h x).2 (cov_cons.2 (Or.inl ⟨by omega, by unfold bend; omega⟩)))
  · exact h1
/-- What they cover tells all. -/
theorem Good.unique : ∀ {L M : List Bk}, Good L → Good M → (∀ x, cov L x ↔ cov M x) → L = M
  | [], [], _, _, _ => rfl
  | [], b :: M, _, _, h => by
    have := (h b.1).2 (cov_cons.2 (Or.inl ⟨Nat.le_refl _, bend_pos b⟩))
    exact absurd this cov_nil
  | a :: L, [], _, _, h => by
    have := (h a.1).1 (cov_cons.2 (Or.inl ⟨Nat.le_refl _, bend_pos a⟩))
    exact absurd this cov_nil
  | a :: L, b :: M, g, g', h => by
    have h1 := g.head_le ((h b.1).2 (cov_cons.2 (Or.inl ⟨Nat.le_refl _, bend_pos b⟩)))
    have h2 := g'.head_le ((h a.1).1 (cov_cons.2 (Or.inl ⟨Nat.le_refl _, bend_pos a⟩)))
    have e : a.1 = b.1 := by omega
    have h3 := g.head_ge g' h e
    have h4 := g'.head_ge g (fun x => (h x).symm) e.symm
    have e2 : a = b := Prod.ext e (by omega)
    subst e2
    rw [Good.unique (g.sub (List.sublist_cons_self _ _)) (g'.sub (List.sublist_cons_self _ _)) fun x => ?_]
    have hx := h x
    rw [cov_cons, cov_cons] at hx
    have n1 : cov L x → ¬ inB a x := by
      rintro ⟨b, hb, hx1⟩ hx2
      have := (List.pairwise_cons.1 g.sorted).1 b hb
      have := hx1.1
      have := hx2.2
      omega
    have n2 : cov M x → ¬ inB a x := by
      rintro ⟨b, hb, hx1⟩ hx2
      have := (List.pairwise_cons.1 g'.sorted).1 b hb
      have := hx1.1
      have := hx2.2
      omega
    constructor
    · intro h
      rcases hx.1 (Or.inr h) with h' | h'
      · exact absurd h' (n1 h)
      · exact h'
    · intro h
      rcases hx.2 (Or.inr h) with h' | h'
      · exact absurd h' (n2 h)
      · exact h'

/-- Blocks from f on up to t, each as great as can be, up to T. -/
structure Cvr (f t T : Nat) (l : List Bk) : Prop where
  al : ∀ b ∈ l, alB b ∧ f ≤ b.1 ∧ bend b ≤ t
  sorted : l.Pairwise fun a b => bend a ≤ b.1
  all : ∀ x, f ≤ x → x < t → cov l x
  great : ∀ b ∈ l, b.2 < 5 → 2 ^ (b.2 + 1) ∣ b.1 → T < b.1 + 2 ^ (b.2 + 1)
theorem Cvr.iff {f t T : Nat} {l : List Bk} (h : Cvr f t T l) (x : Nat) : cov l x ↔ f ≤ x ∧ x < t := by
  constructor
  · rintro ⟨b, hb, h1, h2⟩
    have := h.al b hb
    omega
  · rintro ⟨h1, h2⟩
    exact h.all x h1 h2
theorem Cvr.nil (f T : Nat) : Cvr f f T [] := ⟨by simp, List.Pairwise.nil, fun x h1 h2 => by omega, by simp⟩
theorem Cvr.app {f m t T : Nat} {l k : List Bk} (h : Cvr f m T l) (h' : Cvr m t T k) (h1 : f ≤ m) (h2 : m ≤ t) : Cvr f t T (l ++ k) := by
  refine ⟨fun b hb => ?_, ?_, fun x hx1 hx2 => ?_, fun b hb => ?_⟩
  · rcases List.mem_append.1 hb with hb | hb
    · have := h.al b hb; exact ⟨this.1, by omega, by omega⟩
    · have := h'.al b hb; exact ⟨this.1, by omega, by omega⟩
  · rw [List.pairwise_append]
    refine ⟨h.sorted, h'.sorted, fun a ha b hb => ?_⟩
    have := h.al a ha
    have := h'.al b hb
    omega
  · rw [cov_append]
    rcases Nat.lt_or_ge x m with c | c
    · exact Or.inl (h.all x hx1 c)
    · exact Or.inr (h'.all x c hx2)
  · rcases List.mem_append.1 hb with hb | hb
    · exact h.great b hb
    · exact h'.great b hb
theorem Cvr.one {f o T : Nat} (h5 : o ≤ 5) (hd : 2 ^ o ∣ f) (hg : o < 5 → 2 ^ (o + 1) ∣ f → T < f + 2 ^ (o + 1)) : Cvr f (f + 2 ^ o) T [(f, o)] := by
  refine ⟨fun b hb => ?_, List.pairwise_singleton _ _, fun x h1 h2 => ⟨(f, o), by simp, h1, h2⟩, fun b hb => ?_⟩
  · obtain rfl := List.mem_singleton.1 hb
    exact ⟨⟨h5, hd⟩, Nat.le_refl _, Nat.le_refl _⟩
  · obtain rfl := List.mem_singleton.1 hb
    exact hg
/-- Those of all frames. -/
theorem Cvr.good {n : Nat} {l : List Bk} (h : Cvr 0 n n l) : Good l := by
  refine ⟨fun b hb => (h.al b hb).1, h.sorted, fun b hb h5 hd => ⟨n, ?_, h.great b hb h5 hd, fun hc => ?_⟩⟩
  · have := (h.al b hb).2.2
    have := bend_pos b
    omega
  · have := (h.iff n).1 hc
    omega

/-- A piece is carved out of one. -/
theorem Good.carve {A C l k : List Bk} {b p : Bk} (g : Good (A ++ b :: C)) (h1 : b.1 ≤ p.1) (h2 : bend p ≤ bend b) (hl : Cvr b.1 p.1 p.1 l) (hk : Cvr (bend p) (bend b) (bend b) k) :
    Good (A ++ ((l ++ k) ++ C)) ∧ ∀ x, cov (A ++ ((l ++ k) ++ C)) x ↔ cov (A ++ b :: C) x ∧ ¬ inB p x := by
  have hs := g.sorted
  rw [List.pairwise_append, List.pairwise_cons] at hs
  obtain ⟨s1, ⟨s2, s3⟩, s4⟩ := hs
  have hb := g.al b (by simp)
  have hpp := bend_pos p
  have hc : ∀ x, cov (A ++ ((l ++ k) ++ C)) x ↔ cov (A ++ b :: C) x ∧ ¬ inB p x := by
    intro x
    rw [cov_append, cov_append, cov_append, cov_append, cov_cons, hl.iff, hk.iff]
    have na : cov A x → ¬ inB p x := by
      rintro ⟨a, ha, hx⟩ hx2
      have := s4 a ha b (by simp)
      have := hx.2
      have := hx2.1
      omega
    have nc : cov C x → ¬ inB p x := by
      rintro ⟨c, hc, hx⟩ hx2
      have := s2 c hc
      have := hx.1
      have := hx2.2
      omega
    constructor
    · rintro (h | ((h | h) | h))
      · exact ⟨Or.inl h, na h⟩
      · exact ⟨Or.inr (Or.inl ⟨by omega, by omega⟩), fun hx => by have := hx.1; omega⟩
      · exact ⟨Or.inr (Or.inl ⟨by omega, by omega⟩), fun hx => by have := hx.2; omega⟩
      · exact ⟨Or.inr (Or.inr h), nc h⟩
    · rintro ⟨h | h | h, hn⟩
      · exact Or.inl h
      · refine Or.inr (Or.inl ?_)
        rcases Nat.lt_or_ge x p.1 with c | c
        · exact Or.inl ⟨h.1, c⟩
        · rcases Nat.lt_or_ge x (bend p) with c' | c'
          · exact absurd ⟨c, c'⟩ hn
          · exact Or.inr ⟨c', h.2⟩
      · exact Or.inr (Or.inr h)
  refine ⟨⟨fun y hy => ?_, ?_, fun y hy h5 hd => ?_⟩, hc⟩
  · rcases List.mem_append.1 hy with hy | hy
    · exact g.al y (by simp [hy])
    · rcases List.mem_append.1 hy with hy | hy
      · rcases List.mem_append.1 hy with hy | hy
        · exact (hl.al y hy).1
        · exact (hk.al y hy).1
      · exact g.al y (by simp [hy])
  · rw [List.pairwise_append, List.pairwise_append, List.pairwise_append]
    refine ⟨s1, ⟨⟨hl.sorted, hk.sorted, fun a ha c hc => ?_⟩, s3, fun a ha c hc => ?_⟩, fun a ha c hc => ?_⟩
    · have := hl.al a ha
      have := hk.al c hc
      omega
    · have h := s2 c hc
      rcases List.mem_append.1 ha with ha | ha
      · have := hl.al a ha; omega
      · have := hk.al a ha; omega
    · have hab := s4 a ha b (by simp)
      rcases List.mem_append.1 hc with hc | hc
      · rcases List.mem_append.1 hc with hc | hc
        · have := hl.al c hc; omega
        · have := hk.al c hc; omega
      · exact s4 a ha c (by simp [hc])
  · have old : y ∈ A ++ b :: C → ∃ x, y.1 ≤ x ∧ x < y.1 + 2 ^ (y.2 + 1) ∧ ¬ cov (A ++ ((l ++ k) ++ C)) x := fun hy => by
      obtain ⟨x, x1, x2, x3⟩ := g.left y hy h5 hd
      exact ⟨x, x1, x2, fun h => x3 ((hc x).1 h).1⟩
    rcases List.mem_append.1 hy with hy | hy
    · exact old (by simp [hy])
    · rcases List.mem_append.1 hy with hy | hy
      · rcases List.mem_append.1 hy with hy | hy
        · have h := hl.great y hy h5 hd
          have := hl.al y hy
          have := bend_pos y
          exact ⟨p.1, by omega, by omega, fun h => ((hc _).1 h).2 ⟨Nat.le_refl _, hpp⟩⟩
        · exfalso
          have h := hk.great y hy h5 hd
          have ha := hk.al y hy
          have hyb := bend_pos y
          rcases Nat.lt_or_ge y.2 b.2 with c | c
          · have d1 : 2 ^ (y.2 + 1) ∣ bend b := by
              have d2 : 2 ^ (y.2 + 1) ∣ 2 ^ b.2 := Nat.pow_dvd_pow 2 (by omega)
              exact Nat.dvd_add (Nat.dvd_trans d2 hb.2) d2
            obtain ⟨i, hi⟩ := hd
            obtain ⟨j, hj⟩ := d1
            have k1 : j ≤ i := mul_le_of (m := 2 ^ (y.2 + 1)) (by omega)
            have k3 : i + 1 ≤ j := mul_lt_of (m := 2 ^ (y.2 + 1)) (by omega)
            omega
          · have hp2 : 2 ^ b.2 ≤ 2 ^ y.2 := Nat.pow_le_pow_right (by omega) c
            have e1 : bend b = b.1 + 2 ^ b.2 := rfl
            have e2 : bend y = y.1 + 2 ^ y.2 := rfl
            omega
      · exact old (by simp [hy])
end Go.Proofs.YtbpihdeinkopfaaDoor
