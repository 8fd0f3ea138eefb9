/- Rows of spaces, as the document has them, and of pages' words. -/
import Derived.Test.YtoimmapdkapheaaARef
import Derived.Test.YtoimmapdkapheaaZMake
import Derived.Test.YtoimmapdkapheaaFMath
namespace Go.Proofs.Ytoimmapdkapheaa
set_option maxRecDepth 4000
open Go.RowKit

/-- A space of the document's, as it lies: its number, where its pages and its words are. -/
structure SpV where
  n : Int
  gp : Nat
  cp : Nat
  gw : Nat
  cw : Nat
def SpV.zero : SpV := ⟨0, 0, 0, 0, 0⟩
def SpV.vp (d : SpV) : Value := .slice (some ⟨d.gp, 0, none⟩) 4096 d.cp
def SpV.vw (d : SpV) : Value := .slice (some ⟨d.gw, 0, none⟩) 4096 d.cw
def SpV.cells (d : SpV) : List Value := [.int .i64 d.n, d.vp, d.vw]
theorem SpV.len (d : SpV) : d.cells.length = 3 := rfl
theorem SpV.one (d : SpV) : ∀ u ∈ d.cells, u.oneCell' = true := by
  intro u hu
  simp only [SpV.cells, SpV.vp, SpV.vw, List.mem_cons, List.not_mem_nil, or_false] at hu
  rcases hu with rfl | rfl | rfl <;> rfl
def rSp : Rec SpV := ⟨59, 3, 56, SpV.zero, SpV.cells, SpV.len, by decide, SpV.one⟩
theorem rSp.kin : Kin Try.prog rSp 27 := Kin.of (z := .agg #[.int .i64 0, .slice none 0 0, .slice none 0 0]) Try.underlying27 (by kernel_rfl) rfl
theorem rSp.at {w : World} {b o : Nat} {d : SpV} (h : At rSp w b o d) : w.cell? ⟨b, o, none⟩ = some (.int .i64 d.n) ∧ w.cell? ⟨b, o + 1, none⟩ = some d.vp ∧ w.cell? ⟨b, o + 2, none⟩ = some d.vw :=
  ⟨h 0 (by decide), h 1 (by decide), h 2 (by decide)⟩
/-- A page's words. -/
def w8cells (x : Nat → Nat) : List Value := [.int .u64 (x 0), .int .u64 (x 1), .int .u64 (x 2), .int .u64 (x 3), .int .u64 (x 4), .int .u64 (x 5), .int .u64 (x 6), .int .u64 (x 7)]
theorem w8len (x : Nat → Nat) : (w8cells x).length = 8 := rfl
theorem w8one (x : Nat → Nat) : ∀ u ∈ w8cells x, u.oneCell' = true := by
  intro u hu
  simp only [w8cells, List.mem_cons, List.not_mem_nil, or_false] at hu
  rcases hu with rfl | rfl | rfl | rfl | rfl | rfl | rfl | rfl <;> rfl
def rW8 : Rec (Nat → Nat) := ⟨77, 8, 64, fun _ => 0, w8cells, w8len, by decide, w8one⟩
theorem rW8.kin : Kin Try.prog rW8 57 := Kin.of (z := .agg #[.int .u64 0, .int .u64 0, .int .u64 0, .int .u64 0, .int .u64 0, .int .u64 0, .int .u64 0, .int .u64 0]) Try.underlying57 (by kernel_rfl) rfl
theorem rW8.zone : ∀ i z, Try.prog.info? rW8.t = some i → i.zero = some z → z.cells = (rW8.cells rW8.zero).toArray := by
  intro i z hi hz
  have h : (Try.prog.info? 77).map (fun i => i.zero) = some (some (.agg #[.int .u64 0, .int .u64 0, .int .u64 0, .int .u64 0, .int .u64 0, .int .u64 0, .int .u64 0, .int .u64 0])) := by kernel_rfl
  rw [show Try.prog.info? 77 = some i from hi, Option.map_some, hz] at h
  simp at h
  subst h
  rfl
theorem w8get (x : Nat → Nat) {j : Nat} (hj : j < 8) : (w8cells x)[j]? = some (.int .u64 (x j)) := by
  match j, hj with
  | 0, _ => rfl
  | 1, _ => rfl
  | 2, _ => rfl
  | 3, _ => rfl
  | 4, _ => rfl
  | 5, _ => rfl
  | 6, _ => rfl
  | 7, _ => rfl
theorem rW8.at {w : World} {b o : Nat} {x : Nat → Nat} (h : At rW8 w b o x) {j : Nat} (hj : j < 8) : w.cell? ⟨b, o + j, none⟩ = some (.int .u64 (x j)) := (h j hj).trans (w8get x hj)
theorem w8set (x : Nat → Nat) {i : Nat} (hi : i < 8) (v : Nat) : w8cells (fun j => if j = i then v else x j) = (w8cells x).set i (.int .u64 v) := by
  match i, hi with
  | 0, _ => rfl
  | 1, _ => rfl
  | 2, _ => rfl
  | 3, _ => rfl
  | 4, _ => rfl
  | 5, _ => rfl
  | 6, _ => rfl
  | 7, _ => rfl
def wordsA (wd : Nat → Nat → Nat) : List (Nat → Nat) := ofF 4096 wd
theorem words_len (wd : Nat → Nat → Nat) : (wordsA wd).length = 4096 := ofF_len _ _
theorem words_get (wd : Nat → Nat → Nat) {k : Nat} (h : k < 4096) : (wordsA wd).getD k (fun _ => 0) = wd k := ofF_get _ _ _ h
theorem words_set (wd : Nat → Nat → Nat) (k : Nat) (x : Nat → Nat) : (wordsA wd).set k x = wordsA (fun j => if j = k then x else wd j) := ofF_set _ _ _ _
theorem words_zero : wordsA (fun _ _ => 0) = List.replicate 4096 (fun _ => 0) := ofF_const 4096 _
theorem words_congr {a b : Nat → Nat → Nat} (h : ∀ k, k < 4096 → a k = b k) : wordsA a = wordsA b := ofF_congr h
/-- Spaces side by side, by their numbers. -/
abbrev Sps := List (SpV × Sp)
def lkT : Sps → Wd
  | [], _ => none
  | x :: T, k => if x.1.n = k then some x.2 else lkT T k
def zT : SpV × Sp := (SpV.zero, newS)
def nodT (T : Sps) : Prop := ∀ i j, i < T.length → j < T.length → (T.getD i zT).1.n = (T.getD j zT).1.n → i = j
theorem lk_none : ∀ (T : Sps) (k : Int), lkT T k = none ↔ ∀ i, i < T.length → (T.getD i zT).1.n ≠ k
  | [], k => by simp [lkT]
  | x :: T, k => by
    rw [lkT]
    by_cases c : x.1.n = k
    · rw [if_pos c]
      refine ⟨fun h => (Option.some_ne_none _ h).elim, fun h => absurd c ?_⟩
      have := h 0 (by simp)
      simpa using this
    · rw [if_neg c, lk_none T k]
      constructor
      · intro h i hi
        cases i with
        | zero => simpa using c
        | succ i => have := h i (by simpa using hi); simpa using this
      · intro h i hi
        have := h (i + 1) (by simpa using hi)
        simpa using this
theorem lk_at : ∀ (T : Sps), nodT T → ∀ i, i < T.length → lkT T (T.getD i zT).1.n = some (T.getD i zT).2
  | [], _, i, hi => by simp at hi
  | x :: T, h, i, hi => by
    rw [lkT]
    cases i with
    | zero => simp
    | succ i =>
      have hi' : i < T.length := by simpa using hi
      have hne : x.1.n ≠ (T.getD i zT).1.n := fun e => by
        have := h 0 (i + 1) (by simp) hi (by simpa using e)
        omega
      rw [show (x :: T).getD (i + 1) zT = T.getD i zT by simp, if_neg hne]
      exact lk_at T (fun a b ha hb e => by have := h (a + 1) (b + 1) (by simpa using ha) (by simpa using hb) (by simpa using e); omega) i hi'
theorem lk_app : ∀ (T : Sps) (x : SpV × Sp), lkT T x.1.n = none → lkT (T ++ [x]) = (lkT T).set x.1.n (some x.2)
  | [], x, _ => by
    funext k
    show (if x.1.n = k then some x.2 else none) = if k = x.1.n then some x.2 else none
    by_cases c : x.1.n = k
    · rw [if_pos c, if_pos c.symm]
    · rw [if_neg c, if_neg (Ne.symm c)]
  | y :: T, x, h => by
    rw [lkT] at h
    have hc : y.1.n ≠ x.1.n := fun c => by rw [if_pos c] at h; cases h
    rw [if_neg hc] at h
    funext k
    show (if y.1.n = k then some y.2 else lkT (T ++ [x]) k) = if k = x.1.n then some x.2 else if y.1.n = k then some y.2 else lkT T k
    rw [lk_app T x h]
    show (if y.1.n = k then some y.2 else if k = x.1.n then some x.2 else lkT T k) = _
    by_cases c : y.1.n = k
    · rw [if_pos c, if_neg (fun e => hc (c.trans e)), if_pos c]
    · rw [if_neg c, if_neg c]
theorem lk_del : ∀ (T : Sps), nodT T → ∀ i, i < T.length → lkT (T.take i ++ T.drop (i + 1)) = (lkT T).set (T.getD i zT).1.n none
  | [], _, i, hi => by simp at hi
  | x :: T, h, i, hi => by
    cases i with
    | zero =>
      funext k
      show lkT T k = if k = x.1.n then none else if x.1.n = k then some x.2 else lkT T k
      by_cases c : k = x.1.n
      · rw [if_pos c, lk_none]
        intro j hj e
        have := h 0 (j + 1) (by simp) (by simpa using hj) (by simpa using (e.trans c).symm)
        omega
      · rw [if_neg c, if_neg (Ne.symm c)]
    | succ i =>
      have hi' : i < T.length := by simpa using hi
      have hT : nodT T := fun a b ha hb e => by have := h (a + 1) (b + 1) (by simpa using ha) (by simpa using hb) (by simpa using e); omega
      have hne : x.1.n ≠ (T.getD i zT).1.n := fun e => by
        have := h 0 (i + 1) (by simp) hi (by simpa using e)
        omega
      funext k
      show (if x.1.n = k then some x.2 else lkT (T.take i ++ T.drop (i + 1)) k) = if k = (T.getD i zT).1.n then none else if x.1.n = k then some x.2 else lkT T k
      rw [lk_del T hT i hi']
      show (if x.1.n = k then some x.2 else if k = (T.getD i zT).1.n then none else lkT T k) = _
      by_cases c : x.1.n = k
      · rw [if_pos c, if_neg (fun e => hne (c.trans e)), if_pos c]
      · rw [if_neg c, if_neg c]
theorem lk_set : ∀ (T : Sps), nodT T → ∀ i, i < T.length → ∀ x : SpV × Sp, x.1.n = (T.getD i zT).1.n → lkT (T.set i x) = (lkT T).set x.1.n (some x.2)
  | [], _, i, hi, _, _ => by simp at hi
  | y :: T, h, i, hi, x, hx => by
    cases i with
    | zero =>
      have hx' : x.1.n = y.1.n := by simpa using hx
      funext k
      show (if x.1.n = k then some x.2 else lkT T k) = if k = x.1.n then some x.2 else if y.1.n = k then some y.2 else lkT T k
      by_cases c : x.1.n = k
      · rw [if_pos c, if_pos c.symm]
      · rw [if_neg c, if_neg (Ne.symm c), if_neg (fun e => c (hx'.trans e))]
    | succ i =>
      have hi' : i < T.length := by simpa using hi
      have hT : nodT T := fun a b ha hb e => by have := h (a + 1) (b + 1) (by simpa using ha) (by simpa using hb) (by simpa using e); omega
      have hx' : x.1.n = (T.getD i zT).1.n := by simpa using hx
      have hne : y.1.n ≠ (T.getD i zT).1.n := fun e => by
        have := h 0 (i + 1) (by simp) hi (by simpa using e)
        omega
      funext k
      show (if y.1.n = k then some y.2 else lkT (T.set i x) k) = if k = x.1.n then some x.2 else if y.1.n = k then some y.2 else lkT T k
      rw [lk_set T hT i hi' x hx']
      show (if y.1.n = k then some y.2 else if k = x.1.n then some x.2 else lkT T k) = _
      by_cases c : y.1.n = k
      · rw [if_pos c, if_neg (fun e => hne (by rw [c, e, hx'])), if_pos c]
      · rw [if_neg c, if_neg c]
end Go.Proofs.Ytoimmapdkapheaa
