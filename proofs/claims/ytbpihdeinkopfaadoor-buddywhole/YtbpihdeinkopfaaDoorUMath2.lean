/- Blocks of powers of two: given back, joined with their buddies; where one is found; how many frames. No word of the program. -/
import Derived.Test.YtbpihdeinkopfaaDoorUMath
namespace Go.Proofs.YtbpihdeinkopfaaDoor

/-- The other half. -/
def bud (b : Bk) : Bk := (b.1 ^^^ 2 ^ b.2, b.2)
theorem bud_even {b : Bk} (h : 2 ^ (b.2 + 1) ∣ b.1) : bud b = (b.1 + 2 ^ b.2, b.2) := by
  obtain ⟨f, o⟩ := b
  simp only [bud, Prod.mk.injEq, and_true] at *
  obtain ⟨i, rfl⟩ := h
  have h1 : 2 ^ (o + 1) * i + 2 ^ o = 2 ^ (o + 1) * i ||| 2 ^ o := (Nat.two_pow_add_eq_or_of_lt (b := 2 ^ o) (Nat.pow_lt_pow_right (by omega) (by omega)) i)
  rw [h1]
  apply Nat.eq_of_testBit_eq
  intro j
  rw [Nat.testBit_xor, Nat.testBit_or, Nat.testBit_two_pow]
  by_cases hj : o = j
  · subst hj
    have : (2 ^ (o + 1) * i).testBit o = false := by
      rw [Nat.testBit_two_pow_mul]
      simp
      omega
    simp [this]
  · simp [hj]
theorem bud_odd {b : Bk} (h : 2 ^ b.2 ∣ b.1) (hn : ¬ 2 ^ (b.2 + 1) ∣ b.1) : bud b = (b.1 - 2 ^ b.2, b.2) ∧ 2 ^ b.2 ≤ b.1 ∧ 2 ^ (b.2 + 1) ∣ b.1 - 2 ^ b.2 := by
  obtain ⟨f, o⟩ := b
  simp only at *
  have hd : 2 ^ o ≤ f ∧ 2 ^ (o + 1) ∣ f - 2 ^ o := by
    obtain ⟨i, rfl⟩ := h
    have hi : i % 2 = 1 := by
      rcases Nat.mod_two_eq_zero_or_one i with h0 | h0
      · exfalso
        apply hn
        obtain ⟨k, rfl⟩ : ∃ k, i = 2 * k := ⟨i / 2, by omega⟩
        exact ⟨k, by rw [Nat.pow_succ, Nat.mul_assoc]⟩
      · exact h0
    obtain ⟨k, rfl⟩ : ∃ k, i = 2 * k + 1 := ⟨i / 2, by omega⟩
    have e : 2 ^ o * (2 * k + 1) = 2 ^ (o + 1) * k + 2 ^ o := by rw [Nat.mul_add, Nat.pow_succ, Nat.mul_one, Nat.mul_assoc]
    rw [e]
    exact ⟨by omega, ⟨k, by omega⟩⟩
  refine ⟨?_, hd.1, hd.2⟩
  have h2 := bud_even (b := (f - 2 ^ o, o)) hd.2
  simp only [bud, Prod.mk.injEq, and_true] at h2 ⊢
  rw [show f - 2 ^ o + 2 ^ o = f by omega] at h2
  rw [← h2, Nat.xor_assoc, Nat.xor_self, Nat.xor_zero, h2]

/-- A block with its buddy. -/
def par (b : Bk) : Bk := (min b.1 (bud b).1, b.2 + 1)
theorem par_cases {b : Bk} (h : 2 ^ b.2 ∣ b.1) : (2 ^ (b.2 + 1) ∣ b.1 ∧ bud b = (b.1 + 2 ^ b.2, b.2) ∧ par b = (b.1, b.2 + 1)) ∨ (¬ 2 ^ (b.2 + 1) ∣ b.1 ∧ 2 ^ b.2 ≤ b.1 ∧ 2 ^ (b.2 + 1) ∣ b.1 - 2 ^ b.2 ∧ bud b = (b.1 - 2 ^ b.2, b.2) ∧ par b = (b.1 - 2 ^ b.2, b.2 + 1)) := by
  by_cases hd : 2 ^ (b.2 + 1) ∣ b.1
  · refine Or.inl ⟨hd, bud_even hd, ?_⟩
    unfold par
    rw [bud_even hd, Nat.min_eq_left (by simp)]
  · obtain ⟨h1, h2, h3⟩ := bud_odd h hd
    refine Or.inr ⟨hd, h2, h3, h1, ?_⟩
    unfold par
    rw [h1, Nat.min_eq_right (by simp)]
theorem par_al {b : Bk} (h : alB b) (h5 : b.2 < 5) : alB (par b) := by
  rcases par_cases h.2 with ⟨h1, _, h2⟩ | ⟨_, _, h1, _, h2⟩
  · rw [h2]; exact ⟨h5, h1⟩
  · rw [h2]; exact ⟨h5, h1⟩
theorem bud_al {b : Bk} (h : alB b) : alB (bud b) := by
  rcases par_cases h.2 with ⟨_, h1, _⟩ | ⟨_, h3, h4, h1, _⟩
  · rw [h1]; exact ⟨h.1, Nat.dvd_add h.2 (Nat.dvd_refl _)⟩
  · rw [h1]; exact ⟨h.1, Nat.dvd_sub h.2 (Nat.dvd_refl _)⟩
theorem par_in {b : Bk} (h : 2 ^ b.2 ∣ b.1) (x : Nat) : inB (par b) x ↔ inB b x ∨ inB (bud b) x := by
  rcases par_cases h with ⟨_, h1, h2⟩ | ⟨_, h3, _, h1, h2⟩
  · rw [h1, h2]
    simp only [inB, bend, Nat.pow_succ]
    omega
  · rw [h1, h2]
    simp only [inB, bend, Nat.pow_succ]
    omega
theorem bud_apart {b : Bk} (h : 2 ^ b.2 ∣ b.1) (x : Nat) : inB b x → ¬ inB (bud b) x := by
  rcases par_cases h with ⟨_, h1, _⟩ | ⟨_, h3, _, h1, _⟩
  · rw [h1]; simp only [inB, bend]; omega
  · rw [h1]; simp only [inB, bend]; omega

/-- A block that is given back, joined as far as it goes, is put where it belongs. -/
theorem Good.insert {A C : List Bk} {b : Bk} (g : Good (A ++ C)) (hb : alB b) (ha : ∀ a ∈ A, bend a ≤ b.1) (hc : ∀ c ∈ C, bend b ≤ c.1) (hj : b.2 < 5 → bud b ∉ A ++ C) : Good (A ++ b :: C) := by
  have cv : ∀ x, cov (A ++ b :: C) x ↔ inB b x ∨ cov (A ++ C) x := by
    intro x
    rw [cov_append, cov_cons, cov_append]
    constructor
    · rintro (h | h | h)
      · exact Or.inr (Or.inl h)
      · exact Or.inl h
      · exact Or.inr (Or.inr h)
    · rintro (h | h | h)
      · exact Or.inr (Or.inl h)
      · exact Or.inl h
      · exact Or.inr (Or.inr h)
  have apart : ∀ x, inB b x → ¬ cov (A ++ C) x := by
    rintro x hx ⟨y, hy, hxy⟩
    rcases List.mem_append.1 hy with hy | hy
    · have := ha y hy; have := hx.1; have := hxy.2; omega
    · have := hc y hy; have := hx.2; have := hxy.1; omega
  have nobud : b.2 < 5 → ∃ x, inB (bud b) x ∧ ¬ cov (A ++ b :: C) x := by
    intro h5
    by_cases h : ∀ x, inB (bud b) x → cov (A ++ C) x
    · exfalso
      obtain ⟨y, hy, h1, h2, h3⟩ := g.within (bud_al hb).2 (bud_al hb).1 h
      have h3' : b.2 ≤ y.2 := h3
      rcases Nat.lt_or_ge b.2 y.2 with c | c
      · have hal := g.al y hy
        have hin : inB (bud b) (bud b).1 := ⟨Nat.le_refl _, bend_pos _⟩
        have hpy : inB (par b) (bud b).1 := (par_in hb.2 _).2 (Or.inr hin)
        have hn := nest (a := par b) (b := y) (par_al hb h5).2 hal.2 c hpy ⟨h1, by have := bend_pos (bud b); omega⟩
        have hbb : inB (par b) b.1 := (par_in hb.2 _).2 (Or.inl ⟨Nat.le_refl _, bend_pos b⟩)
        exact apart b.1 ⟨Nat.le_refl _, bend_pos b⟩ ⟨y, hy, by have := hbb.1; omega, by have := hbb.2; omega⟩
      · have e2 : y.2 = (bud b).2 := by show y.2 = b.2; omega
        have e1 : y.1 = (bud b).1 := by
          unfold bend at h2
          rw [e2] at h2
          omega
        exact hj h5 (by rw [← Prod.ext e1 e2]; exact hy)
    · have ⟨x, hx⟩ := Classical.not_forall.1 h
      have ⟨h1, h2⟩ := Classical.not_imp.1 hx
      exact ⟨x, h1, fun h => ((cv x).1 h).elim (fun h' => bud_apart hb.2 x h' h1) h2⟩
  refine ⟨fun y hy => ?_, ?_, fun y hy h5 hd => ?_⟩
  · rcases List.mem_append.1 hy with hy | hy
    · exact g.al y (by simp [hy])
    · rcases List.mem_cons.1 hy with rfl | hy
      · exact hb
      · exact g.al y (by simp [hy])
  · have hs := g.sorted
    rw [List.pairwise_append] at hs ⊢
    refine ⟨hs.1, List.pairwise_cons.2 ⟨hc, hs.2.1⟩, fun a h1 c h2 => ?_⟩
    rcases List.mem_cons.1 h2 with rfl | h2
    · exact ha a h1
    · exact hs.2.2 a h1 c h2
  · by_cases hyb : y = b
    · subst hyb
      obtain ⟨x, h1, h2⟩ := nobud h5
      have hx := (par_in hb.2 x).2 (Or.inr h1)
      rcases par_cases hb.2 with ⟨_, _, e⟩ | ⟨hn, _⟩
      · rw [e] at hx
        exact ⟨x, hx.1, hx.2, h2⟩
      · exact absurd hd hn
    · have hy' : y ∈ A ++ C := by
        rcases List.mem_append.1 hy with h | h
        · simp [h]
        · rcases List.mem_cons.1 h with h | h
          · exact absurd h hyb
          · simp [h]
      obtain ⟨z, z1, z2, z3⟩ := g.left y hy' h5 hd
      by_cases hzb : inB b z
      · have hal := g.al y hy'
        have ey := bud_even hd
        -- z lies in y's other half
        have hzy : inB (bud y) z := by
          have hnz : ¬ inB y z := fun h => z3 ⟨y, hy', h⟩
          rw [ey]
          simp only [inB, bend, Nat.pow_succ] at *
          omega
        rcases Nat.lt_or_ge y.2 b.2 with c | c
        · exfalso
          have hn := nest (a := par y) (b := b) (par_al hal h5).2 hb.2 c ((par_in hal.2 z).2 (Or.inr hzy)) hzb
          have hyy : inB (par y) y.1 := (par_in hal.2 _).2 (Or.inl ⟨Nat.le_refl _, bend_pos y⟩)
          exact apart y.1 ⟨by have := hyy.1; omega, by have := hyy.2; omega⟩ ⟨y, hy', Nat.le_refl _, bend_pos y⟩
        · rcases Nat.lt_or_ge b.2 y.2 with c' | c'
          · obtain ⟨x, x1, x2⟩ := nobud (by omega)
            have hx := (par_in hb.2 x).2 (Or.inr x1)
            have hn := nest (a := par b) (b := bud y) (par_al hb (by omega)).2 (bud_al hal).2 c' ((par_in hb.2 z).2 (Or.inl hzb)) hzy
            refine ⟨x, ?_, ?_, x2⟩
            · have := hx.1
              rw [ey] at hn
              have := hn.1
              simp only at this
              omega
            · have := hx.2
              rw [ey] at hn
              have := hn.2
              simp only [bend, Nat.pow_succ] at *
              omega
          · exfalso
            have e2 : b.2 = y.2 := by omega
            have hn := nest (a := b) (b := bud y) hb.2 (bud_al hal).2 (by show b.2 ≤ y.2; omega) hzb hzy
            have e1 : b.1 = (bud y).1 := by
              have h2 := hn.2
              unfold bend at h2
              rw [show (bud y).2 = y.2 from rfl, e2] at h2
              omega
            have hbb : bud b = y := by
              have e : b = bud y := Prod.ext e1 e2
              rw [e]
              simp [bud, Nat.xor_assoc]
            exact hj (by omega) (by rw [hbb]; exact hy')
      · exact ⟨z, z1, z2, fun h => ((cv z).1 h).elim hzb z3⟩
/-- What is put covers more. -/
theorem cov_insert {A C : List Bk} {b : Bk} (x : Nat) : cov (A ++ b :: C) x ↔ cov (A ++ C) x ∨ inB b x := by
  rw [cov_append, cov_cons, cov_append]
  constructor
  · rintro (h | h | h)
    · exact Or.inl (Or.inl h)
    · exact Or.inr h
    · exact Or.inl (Or.inr h)
  · rintro ((h | h) | h)
    · exact Or.inl h
    · exact Or.inr (Or.inr h)
    · exact Or.inr (Or.inl h)

/-- The number of the first that ends behind x. -/
def behind : List Bk → Nat → Nat
  | [], _ => 0
  | b :: L, x => if x < bend b then 0 else behind L x + 1
theorem behind_le : ∀ (L : List Bk) (x : Nat), behind L x ≤ L.length
  | [], _ => Nat.le_refl _
  | b :: L, x => by
    have := behind_le L x
    simp only [behind, List.length_cons]
    split <;> omega
theorem behind_split : ∀ (L : List Bk) (x : Nat), (∀ a ∈ L.take (behind L x), bend a ≤ x) ∧ (∀ b, L[behind L x]? = some b → x < bend b)
  | [], _ => by simp [behind]
  | b :: L, x => by
    have ih := behind_split L x
    simp only [behind]
    split
    · rename_i h
      simpa using h
    · rename_i h
      refine ⟨?_, by simpa using ih.2⟩
      simp only [List.take_succ_cons, List.mem_cons]
      rintro a (rfl | ha)
      · omega
      · exact ih.1 a ha
/-- .. of a list by rising frames: all from there on do. -/
theorem behind_mono {L : List Bk} (h : L.Pairwise fun a b => bend a ≤ b.1) (x i : Nat) (b : Bk) (hb : L[i]? = some b) : x < bend b ↔ behind L x ≤ i := by
  induction L generalizing i with
  | nil => simp at hb
  | cons c L ih =>
    obtain ⟨h1, h2⟩ := List.pairwise_cons.1 h
    simp only [behind]
    cases i with
    | zero =>
      simp at hb
      subst hb
      split <;> simp <;> omega
    | succ i =>
      simp at hb
      have hi := ih h2 i hb
      split
      · rename_i hc
        have := h1 b (List.mem_of_getElem? hb)
        have := bend_pos b
        simp
        omega
      · rw [hi]
        omega
/-- Whether x is covered. -/
theorem Good.cov_iff {L : List Bk} (g : Good L) (x : Nat) : cov L x ↔ ∃ b, L[behind L x]? = some b ∧ b.1 ≤ x := by
  constructor
  · rintro ⟨b, hb, h1, h2⟩
    obtain ⟨i, hi⟩ := List.getElem?_of_mem hb
    have hm := (behind_mono g.sorted x i b hi).1 h2
    rcases Nat.lt_or_ge (behind L x) i with c | c
    · have hlt : behind L x < L.length := Nat.lt_trans c (List.getElem?_eq_some_iff.1 hi).1
      refine ⟨L[behind L x], List.getElem?_eq_getElem hlt, ?_⟩
      have := List.pairwise_iff_getElem.1 g.sorted _ _ hlt (List.getElem?_eq_some_iff.1 hi).1 c
      rw [(List.getElem?_eq_some_iff.1 hi).2] at this
      have := bend_pos L[behind L x]
      omega
    · have : behind L x = i := by omega
      rw [this]
      exact ⟨b, hi, h1⟩
  · rintro ⟨b, hb, h1⟩
    exact ⟨b, List.mem_of_getElem? hb, h1, (behind_split L x).2 b hb⟩
/-- Whether anything from f on up to t, t itself not, is covered. -/
theorem Good.meets_iff {L : List Bk} (g : Good L) (f t : Nat) (h : f < t) : (∃ x, f ≤ x ∧ x < t ∧ cov L x) ↔ ∃ b, L[behind L f]? = some b ∧ b.1 < t := by
  constructor
  · rintro ⟨x, h1, h2, b, hb, h3, h4⟩
    obtain ⟨i, hi⟩ := List.getElem?_of_mem hb
    have hm := (behind_mono g.sorted f i b hi).1 (by omega)
    rcases Nat.lt_or_ge (behind L f) i with c | c
    · have hlt : behind L f < L.length := Nat.lt_trans c (List.getElem?_eq_some_iff.1 hi).1
      refine ⟨L[behind L f], List.getElem?_eq_getElem hlt, ?_⟩
      have := List.pairwise_iff_getElem.1 g.sorted _ _ hlt (List.getElem?_eq_some_iff.1 hi).1 c
      rw [(List.getElem?_eq_some_iff.1 hi).2] at this
      have := bend_pos L[behind L f]
      omega
    · have : behind L f = i := by omega
      rw [this]
      exact ⟨b, hi, by omega⟩
  · rintro ⟨b, hb, h1⟩
    have h2 := (behind_split L f).2 b hb
    have h3 := bend_pos b
    refine ⟨max b.1 f, by omega, by omega, b, List.mem_of_getElem? hb, by omega, by omega⟩
/-- One of the list is found where it begins. -/
theorem Good.find_iff {L : List Bk} (g : Good L) (b : Bk) : b ∈ L ↔ L[behind L b.1]? = some b := by
  constructor
  · intro hb
    obtain ⟨c, hc, h1⟩ := (g.cov_iff b.1).1 ⟨b, hb, Nat.le_refl _, bend_pos b⟩
    obtain ⟨i, hi⟩ := List.getElem?_of_mem hb
    have hm := (behind_mono g.sorted b.1 i b hi).1 (bend_pos b)
    rcases Nat.lt_or_ge (behind L b.1) i with c' | c'
    · exfalso
      have hlt : behind L b.1 < L.length := Nat.lt_trans c' (List.getElem?_eq_some_iff.1 hi).1
      have h3 := List.pairwise_iff_getElem.1 g.sorted _ _ hlt (List.getElem?_eq_some_iff.1 hi).1 c'
      rw [(List.getElem?_eq_some_iff.1 hi).2] at h3
      have h4 := (behind_split L b.1).2 _ (List.getElem?_eq_getElem hlt)
      omega
    · have : behind L b.1 = i := by omega
      rw [this]
      exact hi
  · exact List.mem_of_getElem?
end Go.Proofs.YtbpihdeinkopfaaDoor
