/- What a walk finds, told by the words alone. -/
import Derived.Test.YteoblaopbhdneaaPMath
namespace Go.Proofs.Yteoblaopbhdneaa

/-- What a walk tells. -/
structure Fnd where
  kind : Int
  level : Int
  table : Int
  place : Int
  frame : Int
  order : Int
  first : Int
  base : Int
  wr : Bool
  ex : Bool
  sn : Bool

def nilF : Fnd := ⟨0, 0, 0, 0, 0, 0, 0, 0, false, false, false⟩

/-- A page's place at a level. -/
def dig (l page : Nat) : Nat := page / 8 ^ (3 - l) % 8
theorem dig_lt (l page : Nat) : dig l page < 8 := Nat.mod_lt _ (by decide)

/-- What is told of the end of a walk. -/
def endF (d : Dsc) (l t p page : Nat) : Fnd :=
  if d.kind = 2 then ⟨2, l, t, p, d.frame + (page % 8 : Nat), 3, (page / 8 * 8 : Nat), d.frame, d.wr, d.ex, d.sn⟩
  else if d.kind = 3 then (if d.fo then ⟨3, l, t, p, d.frame, 2, (page / 4 * 4 : Nat), d.frame - (page % 4 : Nat), d.wr, d.ex, d.sn⟩ else ⟨3, l, t, p, d.frame, 0, page, d.frame, d.wr, d.ex, d.sn⟩)
  else ⟨d.kind, l, t, p, 0, 0, 0, 0, false, false, false⟩
theorem endF_kind (d : Dsc) (l t p page : Nat) : (endF d l t p page).kind = d.kind := by
  unfold endF
  repeat' split
  all_goals simp_all
theorem endF_where (d : Dsc) (l t p page : Nat) : (endF d l t p page).level = l ∧ (endF d l t p page).table = t ∧ (endF d l t p page).place = p := by
  unfold endF
  repeat' split
  all_goals simp

theorem says_kinds (l : Int) (x : Nat) : ((saysD l x).kind = 1 → l ≠ 3) ∧ ((saysD l x).kind = 2 → l = 2) ∧ ((saysD l x).kind = 3 → l = 3) ∧ 0 ≤ (saysD l x).kind ∧ (saysD l x).kind ≤ 5 := by
  unfold saysD
  split
  · rw [tell_kind]
    rcases kindN_cases l x with h | h | h | h | h | h
    all_goals omega
  · simp [badD]
theorem says_frames (l : Int) (x : Nat) : 0 ≤ (saysD l x).frame ∧ (saysD l x).frame < 512 ∧ ((saysD l x).kind = 1 → (saysD l x).frame = wF x) := by
  unfold saysD
  split
  · rename_i h
    rw [tell_frame]
    have := okN_true h
    omega
  · simp [badD]

/-- A walk from a table on, with k + 1 levels to go. -/
def walkN (n : Nat) (f : Nat → Nat) (page : Nat) : Nat → Nat → Option Fnd
  | 0, _ => none
  | k + 1, t => if t < n then (if (saysD ((3 - k : Nat) : Int) (f (t * 8 + dig (3 - k) page))).kind = 1 then walkN n f page k (saysD ((3 - k : Nat) : Int) (f (t * 8 + dig (3 - k) page))).frame.toNat
      else some (endF (saysD ((3 - k : Nat) : Int) (f (t * 8 + dig (3 - k) page))) (3 - k) t (dig (3 - k) page) page)) else none

theorem walkN_out {n : Nat} {f : Nat → Nat} {page k t : Nat} (h : ¬ t < n) : walkN n f page (k + 1) t = none := by unfold walkN; rw [if_neg h]
theorem walkN_on {n : Nat} {f : Nat → Nat} {page k t l : Nat} (h : t < n) (hl : l + k = 3) (h1 : (saysD l (f (t * 8 + dig l page))).kind = 1) : walkN n f page (k + 1) t = walkN n f page k (saysD l (f (t * 8 + dig l page))).frame.toNat := by
  obtain rfl : l = 3 - k := by omega
  rw [walkN, if_pos h, if_pos h1]
theorem walkN_end {n : Nat} {f : Nat → Nat} {page k t l : Nat} (h : t < n) (hl : l + k = 3) (h1 : (saysD l (f (t * 8 + dig l page))).kind ≠ 1) : walkN n f page (k + 1) t = some (endF (saysD l (f (t * 8 + dig l page))) l t (dig l page) page) := by
  obtain rfl : l = 3 - k := by omega
  rw [walkN, if_pos h, if_neg h1]

/-- The walk of a page. -/
def walkF (n : Nat) (f : Nat → Nat) (root page : Nat) : Option Fnd := walkN n f page 4 root

theorem dig_share {p p' L j : Nat} (h : p / 8 ^ (3 - L) = p' / 8 ^ (3 - L)) (hL : L ≤ 3) (hj : j ≤ L) : dig j p = dig j p' := by
  unfold dig
  have e : 8 ^ (3 - j) = 8 ^ (3 - L) * 8 ^ (L - j) := by rw [← Nat.pow_add, show 3 - L + (L - j) = 3 - j from by omega]
  rw [e, ← Nat.div_div_eq_div_mul, ← Nat.div_div_eq_div_mul, h]

/-- Where a walk ends. -/
theorem walkN_ends {n : Nat} {f : Nat → Nat} {p : Nat} : ∀ {k l t : Nat} {x : Fnd}, l + k = 4 → walkN n f p k t = some x →
    ∃ L T : Nat, l ≤ L ∧ L ≤ 3 ∧ T < n ∧ (saysD L (f (T * 8 + dig L p))).kind ≠ 1 ∧ x = endF (saysD L (f (T * 8 + dig L p))) L T (dig L p) p ∧
      (∀ p', p / 8 ^ (3 - L) = p' / 8 ^ (3 - L) → walkN n f p' k t = some (endF (saysD L (f (T * 8 + dig L p))) L T (dig L p) p')) := by
  intro k
  induction k with
  | zero => intro l t x _ h; simp [walkN] at h
  | succ k ih =>
    intro l t x hl h
    by_cases ht : t < n
    · by_cases h1 : (saysD l (f (t * 8 + dig l p))).kind = 1
      · rw [walkN_on ht (by omega) h1] at h
        obtain ⟨L, T, q1, q2, q3, q4, q5, q6⟩ := ih (l := l + 1) (by omega) h
        refine ⟨L, T, by omega, q2, q3, q4, q5, fun p' hp => ?_⟩
        have hd := dig_share hp q2 (show l ≤ L by omega)
        rw [walkN_on (l := l) ht (by omega) (by rw [← hd]; exact h1), ← hd]
        exact q6 p' hp
      · rw [walkN_end ht (by omega) h1] at h
        refine ⟨l, t, Nat.le_refl _, by omega, ht, h1, by simpa using h.symm, fun p' hp => ?_⟩
        have hd := dig_share hp (by omega) (Nat.le_refl l)
        rw [walkN_end (l := l) ht (by omega) (by rw [← hd]; exact h1), ← hd]
    · rw [walkN_out ht] at h; simp at h

/-- The tables that a walk goes by. -/
def tabs (f : Nat → Nat) (page root : Nat) : Nat → Nat
  | 0 => root
  | j + 1 => wF (f (tabs f page root j * 8 + dig j page))

theorem walkN_hangs {n : Nat} {f g : Nat → Nat} {p root : Nat} : ∀ {k l : Nat} {x : Fnd}, l + k = 4 → walkN n f p k (tabs f p root l) = some x →
    (∀ j : Nat, l ≤ j → (j : Int) ≤ x.level → tabs f p root j < n) ∧
    ((∀ j : Nat, l ≤ j → (j : Int) ≤ x.level → g (tabs f p root j * 8 + dig j p) = f (tabs f p root j * 8 + dig j p)) → walkN n g p k (tabs f p root l) = some x) := by
  intro k
  induction k with
  | zero => intro l x _ h; simp [walkN] at h
  | succ k ih =>
    intro l x hl h
    by_cases ht : tabs f p root l < n
    · by_cases h1 : (saysD l (f (tabs f p root l * 8 + dig l p))).kind = 1
      · rw [walkN_on ht (by omega) h1] at h
        have hfr := (says_frames l (f (tabs f p root l * 8 + dig l p))).2.2 h1
        have e : (saysD l (f (tabs f p root l * 8 + dig l p))).frame.toNat = tabs f p root (l + 1) := by rw [hfr]; rfl
        rw [e] at h
        obtain ⟨L, T, q1, q2, q3, q4, q5, -⟩ := walkN_ends (l := l + 1) (by omega) h
        have hx : x.level = L := by rw [q5]; exact (endF_where _ _ _ _ _).1
        obtain ⟨i1, i2⟩ := ih (l := l + 1) (by omega) h
        refine ⟨fun j hj hjx => ?_, fun hg => ?_⟩
        · by_cases hjl : j = l
          · rw [hjl]; exact ht
          · exact i1 j (by omega) hjx
        · have hgl := hg l (Nat.le_refl _) (by omega)
          rw [walkN_on (f := g) (l := l) ht (by omega) (by rw [hgl]; exact h1), hgl, e]
          exact i2 fun j hj hjx => hg j (by omega) hjx
      · rw [walkN_end ht (by omega) h1] at h
        have hx : x = endF (saysD l (f (tabs f p root l * 8 + dig l p))) l (tabs f p root l) (dig l p) p := by simpa using h.symm
        have hlv : x.level = l := by rw [hx]; exact (endF_where _ _ _ _ _).1
        refine ⟨fun j hj hjx => ?_, fun hg => ?_⟩
        · obtain rfl : j = l := by omega
          exact ht
        · have hgl := hg l (Nat.le_refl _) (by omega)
          rw [walkN_end (f := g) (l := l) ht (by omega) (by rw [hgl]; exact h1), hgl]
          exact h
    · rw [walkN_out ht] at h; simp at h

/-- How many pages end at one place of a level. -/
def stepN (l : Nat) : Nat := 8 ^ (3 - l)

def leafB (x : Fnd) : Bool := decide (x.kind = 2 ∨ x.kind = 3)
/-- Is it told at this page? -/
def toldB (x : Fnd) (p : Nat) : Bool := decide (x.kind = 3 ∨ x.kind = 2 ∧ x.first = p)

/-- What walks of the pages below p find; none, if one of them is amiss. -/
def gather (w : Nat → Option Fnd) : Nat → Option (List Fnd)
  | 0 => some []
  | p + 1 => match gather w p, w p with
    | some L, some x => some (if toldB x p then L ++ [x] else L)
    | _, _ => none
theorem gather_succ {w : Nat → Option Fnd} {p : Nat} {L : List Fnd} {x : Fnd} (h : gather w p = some L) (hx : w p = some x) : gather w (p + 1) = some (if toldB x p then L ++ [x] else L) := by
  rw [gather, h, hx]
theorem gather_bad {w : Nat → Option Fnd} {p : Nat} (hx : w p = none) : ∀ q, p < q → gather w q = none := by
  intro q
  induction q with
  | zero => intro h; omega
  | succ q ih =>
    intro h
    by_cases e : p = q
    · subst e
      rw [gather, hx]
      cases gather w p <;> rfl
    · rw [gather, ih (by omega)]
theorem gather_still {w : Nat → Option Fnd} {p : Nat} {L : List Fnd} : ∀ {m : Nat}, gather w p = some L → (∀ q, p ≤ q → q < p + m → ∃ x, w q = some x ∧ toldB x q = false) → gather w (p + m) = some L := by
  intro m
  induction m with
  | zero => intro h _; exact h
  | succ m ih =>
    intro h hs
    obtain ⟨x, hx, ht⟩ := hs (p + m) (by omega) (by omega)
    have := ih h fun q h1 h2 => hs q h1 (by omega)
    rw [show p + (m + 1) = p + m + 1 from rfl, gather_succ this hx, ht]
    rfl

/-- Does every walk of a page end at a place that is of pages from it on? -/
def lined (w : Nat → Option Fnd) (p : Nat) : Prop := ∀ x, w p = some x → ∃ l : Nat, l ≤ 3 ∧ x.level = l ∧ p % stepN l = 0

theorem lined_zero (n : Nat) (f : Nat → Nat) (root : Nat) : lined (walkF n f root) 0 := by
  intro x hx
  obtain ⟨L, T, _, q2, _, _, q5, _⟩ := walkN_ends (l := 0) (by omega) hx
  exact ⟨L, q2, by rw [q5]; exact (endF_where _ _ _ _ _).1, Nat.zero_mod _⟩

theorem step_cases {l : Nat} (h : l ≤ 3) : (l = 0 ∧ stepN l = 512) ∨ (l = 1 ∧ stepN l = 64) ∨ (l = 2 ∧ stepN l = 8) ∨ (l = 3 ∧ stepN l = 1) := by
  have : l = 0 ∨ l = 1 ∨ l = 2 ∨ l = 3 := by omega
  rcases this with rfl | rfl | rfl | rfl <;> simp [stepN]

/-- One walk stands for all pages of its place. -/
theorem gather_step {n : Nat} {f : Nat → Nat} {root p l : Nat} {L : List Fnd} {x : Fnd} (hg : gather (walkF n f root) p = some L) (hx : walkF n f root p = some x) (hl : x.level = l) (hl3 : l ≤ 3) (hp : p % stepN l = 0) :
    gather (walkF n f root) (p + stepN l) = some (if leafB x then L ++ [x] else L) ∧ lined (walkF n f root) (p + stepN l) := by
  obtain ⟨l', T, _, q2, q3, q4, q5, q6⟩ := walkN_ends (l := 0) (by omega) hx
  have hlv : x.level = l' := by rw [q5]; exact (endF_where _ _ _ _ _).1
  obtain rfl : l' = l := by omega
  have hk : x.kind = (saysD l' (f (T * 8 + dig l' p))).kind := by rw [q5]; exact endF_kind _ _ _ _ _
  have hsk := says_kinds l' (f (T * 8 + dig l' p))
  have hsh : ∀ q, p ≤ q → q < p + stepN l' → p / 8 ^ (3 - l') = q / 8 ^ (3 - l') := by
    intro q h1 h2
    change p / stepN l' = q / stepN l'
    rcases step_cases hl3 with ⟨_, e⟩ | ⟨_, e⟩ | ⟨_, e⟩ | ⟨_, e⟩ <;> rw [e] at hp h2 ⊢ <;> omega
  have hwalk : ∀ q, p ≤ q → q < p + stepN l' → walkF n f root q = some (endF (saysD l' (f (T * 8 + dig l' p))) l' T (dig l' p) q) := fun q h1 h2 => q6 q (hsh q h1 h2)
  generalize saysD l' (f (T * 8 + dig l' p)) = d at *
  refine ⟨?_, ?_⟩
  · have h1 : gather (walkF n f root) (p + 1) = some (if leafB x then L ++ [x] else L) := by
      rw [gather_succ hg hx]
      congr 2
      unfold toldB leafB
      by_cases k3 : x.kind = 3
      · simp [k3]
      by_cases k2 : x.kind = 2
      · have : l' = 2 := by have := hsk.2.1 (by omega); omega
        subst this
        have e8 : stepN 2 = 8 := by simp [stepN]
        rw [e8] at hp
        have : x.first = p := by
          rw [q5]
          unfold endF
          rw [if_pos (by omega)]
          simp only
          omega
        simp [k2, this]
      · simp [k3, k2]
    have hs : 0 < stepN l' := Nat.pow_pos (by decide)
    have h2 := gather_still (m := stepN l' - 1) h1 fun q a b => ⟨_, hwalk q (by omega) (by omega), by
      have hle : 2 ≤ stepN l' := by omega
      have n3 : d.kind ≠ 3 := fun h => by
        have : l' = 3 := by have := hsk.2.2.1 h; omega
        subst this
        simp [stepN] at hle
      unfold toldB
      rw [decide_eq_false_iff_not, endF_kind]
      rintro (h | ⟨h, h'⟩)
      · exact n3 h
      · have : l' = 2 := by have := hsk.2.1 h; omega
        subst this
        have e8 : stepN 2 = 8 := by simp [stepN]
        rw [e8] at hp b
        unfold endF at h'
        rw [if_pos h] at h'
        simp only at h'
        omega⟩
    rw [show p + 1 + (stepN l' - 1) = p + stepN l' from by omega] at h2
    exact h2
  · intro y hy
    obtain ⟨m, T', _, r2, r3, r4, r5, r6⟩ := walkN_ends (l := 0) (by omega) hy
    have hm : y.level = m := by rw [r5]; exact (endF_where _ _ _ _ _).1
    refine ⟨m, r2, hm, ?_⟩
    apply Decidable.byContradiction
    intro hne
    have hs : 0 < stepN l' := Nat.pow_pos (by decide)
    have hpp : (p + stepN l') / 8 ^ (3 - m) = (p + stepN l' - 1) / 8 ^ (3 - m) := by
      change (p + stepN l') / stepN m = (p + stepN l' - 1) / stepN m
      rcases step_cases r2 with ⟨_, e⟩ | ⟨_, e⟩ | ⟨_, e⟩ | ⟨_, e⟩ <;> rw [e] at hne ⊢ <;> omega
    have w1 := r6 _ hpp
    have w2 := hwalk (p + stepN l' - 1) (by omega) (by omega)
    have e1 : (some (endF (saysD m (f (T' * 8 + dig m (p + stepN l')))) m T' (dig m (p + stepN l')) (p + stepN l' - 1))) = some (endF d l' T (dig l' p) (p + stepN l' - 1)) := w1.symm.trans w2
    have e2 := congrArg Fnd.level (Option.some.inj e1)
    rw [(endF_where _ _ _ _ _).1, (endF_where _ _ _ _ _).1] at e2
    obtain rfl : m = l' := by omega
    apply hne
    rw [Nat.add_mod_right]
    exact hp
end Go.Proofs.Yteoblaopbhdneaa
