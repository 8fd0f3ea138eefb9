/- Worlds of spaces: no word of the program. -/
import Derived.Test.YtoimmapdkapheaaAMath2
namespace Go.Proofs.Ytoimmapdkapheaa
set_option maxRecDepth 4000

/-- A space: what each page has, and its words. -/
structure Sp where
  f : Int → Option Pg
  wd : Nat → Nat → Nat
/-- A world of spaces, by their numbers. -/
abbrev Wd := Int → Option Sp
def Wd.set (A : Wd) (n : Int) (s : Option Sp) : Wd := fun k => if k = n then s else A k
theorem Wd.set_at (A : Wd) (n : Int) (s : Option Sp) : A.set n s n = s := if_pos rfl
theorem Wd.set_ne (A : Wd) {n k : Int} (s : Option Sp) (h : k ≠ n) : A.set n s k = A k := if_neg h
def okN (n : Int) : Prop := 1 ≤ n ∧ n ≤ 255
def newS : Sp := ⟨fun _ => none, fun _ _ => 0⟩
/-- Pages from a up to b are 0s. -/
def wdZ (wd : Nat → Nat → Nat) (a b : Int) (k i : Nat) : Nat := if a ≤ (k : Int) ∧ (k : Int) < b then 0 else wd k i
/-- One word is stored. -/
def wdS (wd : Nat → Nat → Nat) (p i v : Nat) (k j : Nat) : Nat := if k = p ∧ j = i then v else wd k j
/-- A space that may be: nothing beyond its pages, not too many areas, words of 64 bits. -/
structure Sp.ok (s : Sp) : Prop where
  out : ∀ p : Int, p < 0 ∨ 4096 ≤ p → s.f p = none
  fit : ∃ M, CanA s.f M ∧ M.length ≤ 64
  wds : ∀ k i, s.wd k i < 18446744073709551616
/-- A world that may be. -/
def Wd.ok (A : Wd) : Prop := ∀ n s, A n = some s → okN n ∧ s.ok
def MakeD (A : Wd) (n : Int) (code : Int) (A' : Wd) : Prop :=
  (¬ okN n ∧ code = 1 ∧ A' = A) ∨ (okN n ∧ A n ≠ none ∧ code = 4 ∧ A' = A) ∨ (okN n ∧ A n = none ∧ code = 0 ∧ A' = A.set n (some newS))
def ForkD (A : Wd) (n c : Int) (code : Int) (A' : Wd) : Prop :=
  (¬ okN c ∧ code = 1 ∧ A' = A) ∨ (okN c ∧ A n = none ∧ code = 3 ∧ A' = A) ∨ (okN c ∧ A n ≠ none ∧ A c ≠ none ∧ code = 4 ∧ A' = A) ∨ (∃ s, okN c ∧ A n = some s ∧ A c = none ∧ code = 0 ∧ A' = A.set c (some s))
def EndD (A : Wd) (n : Int) (code : Int) (A' : Wd) : Prop :=
  (A n = none ∧ code = 3 ∧ A' = A) ∨ (A n ≠ none ∧ code = 0 ∧ A' = A.set n none)
def LayD (A : Wd) (n a b : Int) (t : Option Pg) (code : Int) (A' : Wd) : Prop :=
  (A n = none ∧ code = 3 ∧ A' = A) ∨ (∃ s, A n = some s ∧ ((¬ SpanA a b ∧ code = 1 ∧ A' = A) ∨ (SpanA a b ∧ ∃ M, CanA (layA s.f a b t) M ∧ ((64 < M.length ∧ code = 5 ∧ A' = A) ∨ (M.length ≤ 64 ∧ code = 0 ∧ A' = A.set n (some ⟨layA s.f a b t, wdZ s.wd a b⟩))))))
def ChgD (A : Wd) (n a b : Int) (g : Pg → Pg) (code : Int) (A' : Wd) : Prop :=
  (A n = none ∧ code = 3 ∧ A' = A) ∨ (∃ s, A n = some s ∧ ((¬ SpanA a b ∧ code = 1 ∧ A' = A) ∨ (SpanA a b ∧ (∃ p, a ≤ p ∧ p < b ∧ s.f p = none) ∧ code = 3 ∧ A' = A) ∨ (SpanA a b ∧ (∀ p, a ≤ p → p < b → s.f p ≠ none) ∧ ∃ M, CanA (mapA s.f a b g) M ∧ ((64 < M.length ∧ code = 5 ∧ A' = A) ∨ (M.length ≤ 64 ∧ code = 0 ∧ A' = A.set n (some ⟨mapA s.f a b g, s.wd⟩))))))
/-- A word's place: an error's number, or none. -/
def AtD (A : Wd) (n p i : Int) (code : Int) : Prop :=
  (A n = none ∧ code = 3) ∨ (∃ s, A n = some s ∧ ((¬ (0 ≤ i ∧ i < 8) ∧ code = 1) ∨ (0 ≤ i ∧ i < 8 ∧ s.f p = none ∧ code = 3) ∨ (0 ≤ i ∧ i < 8 ∧ s.f p ≠ none ∧ code = 0)))
theorem make_ex (A : Wd) (n : Int) : ∃ code A', MakeD A n code A' := by
  by_cases h : okN n
  · cases e : A n with
    | none => exact ⟨0, _, Or.inr (Or.inr ⟨h, e, rfl, rfl⟩)⟩
    | some s => exact ⟨4, A, Or.inr (Or.inl ⟨h, by rw [e]; simp, rfl, rfl⟩)⟩
  · exact ⟨1, A, Or.inl ⟨h, rfl, rfl⟩⟩
theorem fork_ex (A : Wd) (n c : Int) : ∃ code A', ForkD A n c code A' := by
  by_cases h : okN c
  · cases e : A n with
    | none => exact ⟨3, A, Or.inr (Or.inl ⟨h, e, rfl, rfl⟩)⟩
    | some s =>
      cases e2 : A c with
      | none => exact ⟨0, _, Or.inr (Or.inr (Or.inr ⟨s, h, e, e2, rfl, rfl⟩))⟩
      | some t => exact ⟨4, A, Or.inr (Or.inr (Or.inl ⟨h, by rw [e]; simp, by rw [e2]; simp, rfl, rfl⟩))⟩
  · exact ⟨1, A, Or.inl ⟨h, rfl, rfl⟩⟩
theorem end_ex (A : Wd) (n : Int) : ∃ code A', EndD A n code A' := by
  cases e : A n with
  | none => exact ⟨3, A, Or.inl ⟨e, rfl, rfl⟩⟩
  | some s => exact ⟨0, _, Or.inr ⟨by rw [e]; simp, rfl, rfl⟩⟩
theorem lay_ex (A : Wd) (n a b : Int) (t : Option Pg) : ∃ code A', LayD A n a b t code A' := by
  cases e : A n with
  | none => exact ⟨3, A, Or.inl ⟨e, rfl, rfl⟩⟩
  | some s =>
    by_cases h : SpanA a b
    · obtain ⟨M, hM⟩ := can_ex (layA s.f a b t)
      by_cases h4 : M.length ≤ 64
      · exact ⟨0, _, Or.inr ⟨s, e, Or.inr ⟨h, M, hM, Or.inr ⟨h4, rfl, rfl⟩⟩⟩⟩
      · exact ⟨5, A, Or.inr ⟨s, e, Or.inr ⟨h, M, hM, Or.inl ⟨by omega, rfl, rfl⟩⟩⟩⟩
    · exact ⟨1, A, Or.inr ⟨s, e, Or.inl ⟨h, rfl, rfl⟩⟩⟩
theorem chg_ex (A : Wd) (n a b : Int) (g : Pg → Pg) : ∃ code A', ChgD A n a b g code A' := by
  cases e : A n with
  | none => exact ⟨3, A, Or.inl ⟨e, rfl, rfl⟩⟩
  | some s =>
    by_cases h : SpanA a b
    · by_cases hg : ∃ p, a ≤ p ∧ p < b ∧ s.f p = none
      · exact ⟨3, A, Or.inr ⟨s, e, Or.inr (Or.inl ⟨h, hg, rfl, rfl⟩)⟩⟩
      · have hg' : ∀ p, a ≤ p → p < b → s.f p ≠ none := fun p h1 h2 h3 => hg ⟨p, h1, h2, h3⟩
        obtain ⟨M, hM⟩ := can_ex (mapA s.f a b g)
        by_cases h4 : M.length ≤ 64
        · exact ⟨0, _, Or.inr ⟨s, e, Or.inr (Or.inr ⟨h, hg', M, hM, Or.inr ⟨h4, rfl, rfl⟩⟩)⟩⟩
        · exact ⟨5, A, Or.inr ⟨s, e, Or.inr (Or.inr ⟨h, hg', M, hM, Or.inl ⟨by omega, rfl, rfl⟩⟩)⟩⟩
    · exact ⟨1, A, Or.inr ⟨s, e, Or.inl ⟨h, rfl, rfl⟩⟩⟩
theorem at_ex (A : Wd) (n p i : Int) : ∃ code, AtD A n p i code := by
  cases e : A n with
  | none => exact ⟨3, Or.inl ⟨e, rfl⟩⟩
  | some s =>
    by_cases h : 0 ≤ i ∧ i < 8
    · cases e2 : s.f p with
      | none => exact ⟨3, Or.inr ⟨s, e, Or.inr (Or.inl ⟨h.1, h.2, e2, rfl⟩)⟩⟩
      | some t => exact ⟨0, Or.inr ⟨s, e, Or.inr (Or.inr ⟨h.1, h.2, by rw [e2]; simp, rfl⟩)⟩⟩
    · exact ⟨1, Or.inr ⟨s, e, Or.inl ⟨h, rfl⟩⟩⟩
theorem emp_ok : Wd.ok (fun _ => none) := fun n s e => by cases e
theorem newS_ok : newS.ok := by
  refine ⟨fun _ _ => rfl, ?_, fun _ _ => by show 0 < _; omega⟩
  obtain ⟨M, hM⟩ := can_ex newS.f
  have := can_none hM fun p _ _ => rfl
  exact ⟨M, hM, by rw [this]; exact Nat.zero_le _⟩
theorem Wd.ok.set {A : Wd} (h : A.ok) {n : Int} {s : Sp} (hn : okN n) (hs : s.ok) : (A.set n (some s)).ok := fun k t e => by
  unfold Wd.set at e
  by_cases c : k = n
  · rw [if_pos c] at e
    cases e
    rw [c]
    exact ⟨hn, hs⟩
  · rw [if_neg c] at e
    exact h k t e
theorem Wd.ok.del {A : Wd} (h : A.ok) (n : Int) : (A.set n none).ok := fun k t e => by
  unfold Wd.set at e
  by_cases c : k = n
  · rw [if_pos c] at e
    cases e
  · rw [if_neg c] at e
    exact h k t e
theorem MakeD.ok {A A' : Wd} {n code : Int} (h : MakeD A n code A') (hA : A.ok) : A'.ok := by
  rcases h with ⟨_, _, rfl⟩ | ⟨_, _, _, rfl⟩ | ⟨h, _, _, rfl⟩
  · exact hA
  · exact hA
  · exact hA.set h newS_ok
theorem ForkD.ok {A A' : Wd} {n c code : Int} (h : ForkD A n c code A') (hA : A.ok) : A'.ok := by
  rcases h with ⟨_, _, rfl⟩ | ⟨_, _, _, rfl⟩ | ⟨_, _, _, _, rfl⟩ | ⟨s, h, e, _, _, rfl⟩
  · exact hA
  · exact hA
  · exact hA
  · exact hA.set h (hA _ _ e).2
theorem EndD.ok {A A' : Wd} {n code : Int} (h : EndD A n code A') (hA : A.ok) : A'.ok := by
  rcases h with ⟨_, _, rfl⟩ | ⟨_, _, rfl⟩
  · exact hA
  · exact hA.del n
theorem layS_ok {s : Sp} {a b : Int} {t : Option Pg} {M : List AAr} (hs : s.ok) (h : SpanA a b) (hM : CanA (layA s.f a b t) M) (h4 : M.length ≤ 64) : Sp.ok ⟨layA s.f a b t, wdZ s.wd a b⟩ :=
  ⟨fun p hp => by
    show layA s.f a b t p = none
    unfold layA
    rw [if_neg (by have := h.1; have := h.2.2; omega)]
    exact hs.out p hp, ⟨M, hM, h4⟩, fun k i => by
    show wdZ s.wd a b k i < _
    unfold wdZ
    by_cases c : a ≤ (k : Int) ∧ (k : Int) < b
    · rw [if_pos c]; omega
    · rw [if_neg c]; exact hs.wds k i⟩
theorem mapS_ok {s : Sp} {a b : Int} {g : Pg → Pg} {M : List AAr} (hs : s.ok) (hM : CanA (mapA s.f a b g) M) (h4 : M.length ≤ 64) : Sp.ok ⟨mapA s.f a b g, s.wd⟩ :=
  ⟨fun p hp => by
    show mapA s.f a b g p = none
    unfold mapA
    rw [hs.out p hp]
    by_cases c : a ≤ p ∧ p < b
    · rw [if_pos c]; rfl
    · rw [if_neg c], ⟨M, hM, h4⟩, hs.wds⟩
theorem LayD.ok {A A' : Wd} {n a b code : Int} {t : Option Pg} (h : LayD A n a b t code A') (hA : A.ok) : A'.ok := by
  rcases h with ⟨_, _, rfl⟩ | ⟨s, e, ⟨_, _, rfl⟩ | ⟨hS, M, hM, ⟨_, _, rfl⟩ | ⟨h4, _, rfl⟩⟩⟩
  · exact hA
  · exact hA
  · exact hA
  · exact hA.set (hA _ _ e).1 (layS_ok (hA _ _ e).2 hS hM h4)
theorem ChgD.ok {A A' : Wd} {n a b code : Int} {g : Pg → Pg} (h : ChgD A n a b g code A') (hA : A.ok) : A'.ok := by
  rcases h with ⟨_, _, rfl⟩ | ⟨s, e, ⟨_, _, rfl⟩ | ⟨_, _, _, rfl⟩ | ⟨_, _, M, hM, ⟨_, _, rfl⟩ | ⟨h4, _, rfl⟩⟩⟩
  · exact hA
  · exact hA
  · exact hA
  · exact hA
  · exact hA.set (hA _ _ e).1 (mapS_ok (hA _ _ e).2 hM h4)
theorem store_ok {s : Sp} (hs : s.ok) (p i : Nat) {v : Nat} (hv : v < 18446744073709551616) : Sp.ok ⟨s.f, wdS s.wd p i v⟩ :=
  ⟨hs.out, hs.fit, fun k j => by
    show wdS s.wd p i v k j < _
    unfold wdS
    by_cases c : k = p ∧ j = i
    · rw [if_pos c]; exact hv
    · rw [if_neg c]; exact hs.wds k j⟩
end Go.Proofs.Ytoimmapdkapheaa
