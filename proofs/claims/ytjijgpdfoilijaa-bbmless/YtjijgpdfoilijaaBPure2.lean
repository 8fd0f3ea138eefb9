/- What becomes of a watch that knows one place, of which pages are told one by one. -/
import Derived.Test.YtjijgpdfoilijaaBPure
namespace Go.Proofs.Ytjijgpdfoilijaa
open Go.RowKit

/-- The first k of n pages told, but for s. -/
def tkB (n s k : Nat) : List Bool := (List.range n).map fun j => decide (j < k ∧ j ≠ s)
def partV (a t p f : Int) (x : Nat) (told : List Bool) : View := [((t, p), ⟨a, f, x, told⟩)]
theorem tk_len (n s k : Nat) : (tkB n s k).length = n := by simp [tkB]
theorem tk_at (n s k j : Nat) (h : j < n) : (tkB n s k)[j]? = some (decide (j < k ∧ j ≠ s)) := by simp [tkB, h]
theorem tk_zero (n s : Nat) : tkB n s 0 = List.replicate n false := by
  apply List.ext_getElem?
  intro j
  by_cases h : j < n
  · rw [tk_at _ _ _ _ h]
    simp [h]
  · rw [List.getElem?_eq_none (by rw [tk_len]; omega), List.getElem?_eq_none (by simp; omega)]
theorem tk_step (n s k : Nat) (h : k < n) (hs : k ≠ s) : (tkB n s k).set k true = tkB n s (k + 1) := by
  apply List.ext_getElem?
  intro j
  by_cases hj : j < n
  · rw [tk_at _ _ _ _ hj, List.getElem?_set]
    by_cases e : k = j
    · subst e
      simp [tk_len, h, hs]
    · rw [if_neg e, tk_at _ _ _ _ hj]
      congr 1
      rw [Bool.eq_iff_iff, decide_eq_true_iff, decide_eq_true_iff]
      omega
  · rw [List.getElem?_eq_none (by simp [tk_len]; omega), List.getElem?_eq_none (by rw [tk_len]; omega)]
theorem tk_skip (n s : Nat) : tkB n s (s + 1) = tkB n s s := by
  unfold tkB
  refine List.map_congr_left fun j _ => ?_
  rw [Bool.eq_iff_iff, decide_eq_true_iff, decide_eq_true_iff]
  omega
theorem tk_left {n s k : Nat} (h : ∃ j, j < n ∧ (k ≤ j ∨ j = s)) : ¬ leftN (tkB n s k) = 0 := by
  obtain ⟨j, hj, hc⟩ := h
  have hm : false ∈ tkB n s k := by
    refine List.mem_iff_getElem?.2 ⟨j, ?_⟩
    rw [tk_at _ _ _ _ hj, decide_eq_false (by omega)]
  have : 0 < leftN (tkB n s k) := List.countP_pos_iff.2 ⟨false, hm, rfl⟩
  omega
theorem tk_all {n s : Nat} (h : n ≤ s) : leftN (tkB n s n) = 0 := by
  refine List.countP_eq_zero.2 fun b hb => ?_
  obtain ⟨j, hj⟩ := List.mem_iff_getElem?.1 hb
  have hjn : j < n := by
    have := (List.getElem?_eq_some_iff.1 hj).1
    rwa [tk_len] at this
  rw [tk_at _ _ _ _ hjn, decide_eq_true (by omega)] at hj
  cases hj
  simp
theorem part_open (a lvl t p f : Int) (x s : Nat) : openV a lvl t p f x = partV a t p f x (tkB (manyN lvl) s 0) := by
  rw [tk_zero]
  rfl
theorem tell_tk {n s k : Nat} (f : Int) (h : k < n) (hs : k ≠ s) : tellT (tkB n s k) f (f + (k : Int)) = tkB n s (k + 1) := by
  unfold tellT
  rw [if_pos (by rw [tk_len]; omega), show (f + (k : Int) - f).toNat = k by omega, tk_step n s k h hs]
theorem v_tells {n s k : Nat} (a t p f : Int) (x : Nat) (h : k < n) (hs : k ≠ s) (hl : ∃ j, j < n ∧ (k + 1 ≤ j ∨ j = s)) : toldV a (f + (k : Int)) (partV a t p f x (tkB n s k)) = partV a t p f x (tkB n s (k + 1)) := by
  have h1 := tk_left hl
  simp [toldV, partV, tellV, tell_tk f h hs, h1]
theorem v_tellsEnd {n s k : Nat} (a t p f : Int) (x : Nat) (h : k + 1 = n) (hs : n ≤ s) : toldV a (f + (k : Int)) (partV a t p f x (tkB n s k)) = [] := by
  have h1 : leftN (tkB n s (k + 1)) = 0 := by rw [h]; exact tk_all hs
  simp [toldV, partV, tellV, tell_tk f (show k < n by omega) (show k ≠ s by omega), h1]
theorem v_closes (a lvl t p f : Int) (x : Nat) {y : Nat} (hy : validB y = true) (told : List Bool) : brokeV false (partV a t p f x told) lvl t p 0 y = !alikeB (saysD lvl x) (saysD lvl y) ∧ writeV (partV a t p f x told) a lvl t p f 0 y = [] := by
  have h0 : validB 0 = false := by decide
  constructor
  · simp [brokeV, h0, hy, change_from0, clashV, getL, partV]
  · simp [writeV, h0, hy, delL, partV]
theorem v_openB (br : Bool) (a lvl t p f : Int) {x : Nat} (h : validB x = true) : brokeV br [] lvl t p x 0 = br ∧ writeV [] a lvl t p f x 0 = openV a lvl t p f x := by
  have h0 : validB 0 = false := by decide
  constructor
  · simp [brokeV, h, change_zero]
  · simp [writeV, h, h0, putL, openV]
theorem v_toldNil (a page : Int) : toldV a page [] = [] := rfl
theorem v_spaceNil (a : Int) : spaceV a [] = [] := rfl
theorem alike_says {lvl : Int} {a b : Dsc} (ha : mayD lvl a = true) (hb : mayD lvl b = true) : alikeB (saysD lvl (wordD a)) (saysD lvl (wordD b)) = eqD (mixD a b) b := by
  rw [says_word lvl a ha, says_word lvl b hb]
  unfold alikeB
  rw [decide_eq_true ⟨(mayD_lvl ha).2, (mayD_lvl hb).2⟩, Bool.true_and]
theorem alike_self {lvl : Int} {a : Dsc} (ha : mayD lvl a = true) : alikeB (saysD lvl (wordD a)) (saysD lvl (wordD a)) = true := by
  rw [alike_says ha ha]
  exact eqD_iff.2 rfl

section
variable {B : Nat} {W w w' : World} {b m b' m' : Nat} {br br' : Bool} {v v' : View}
/-- Two watches whose blocks lie from B on. -/
def TwoB (B : Nat) (W w : World) (b m : Nat) (br : Bool) (v : View) (b' m' : Nat) (br' : Bool) (v' : View) : Prop :=
  ∃ F G, (∀ c, F c → B ≤ c) ∧ (∀ c, G c → B ≤ c) ∧ (∀ c, F c → G c → False) ∧ Wv F w b m br v ∧ Wv G w b' m' br' v' ∧ B ≤ w.heap.size ∧ Below B W w
theorem TwoB.frame (h : TwoB B W w b m br v b' m' br' v') : Below B W w := by
  obtain ⟨F, G, _, _, _, _, _, _, h⟩ := h
  exact h
theorem TwoB.swap (h : TwoB B W w b m br v b' m' br' v') : TwoB B W w b' m' br' v' b m br v := by
  obtain ⟨F, G, h1, h2, h3, h4, h5, h6⟩ := h
  exact ⟨G, F, h2, h1, fun c hg hf => h3 c hf hg, h5, h4, h6⟩
theorem TwoB.op {f : FuncId} {args : Array Value} {r : Value} {br1 : Bool} {v1 : View} (h : TwoB B W w b m br v b' m' br' v') (hc : ∀ F, Wv F w b m br v → Calls Try.prog f args w (VPost F w b m br1 v1 r)) : Calls Try.prog f args w fun e w' => e = .returned r ∧ TwoB B W w' b m br1 v1 b' m' br' v' := by
  obtain ⟨F, G, h1, h2, h3, h4, h5, hz, h6⟩ := h
  refine (hc F h4).mono ?_
  rintro e w1 ⟨rfl, F', hF, hw, hk⟩
  refine ⟨rfl, F', G, fun c hc => ?_, h2, fun c hf hg => ?_, hw, h5.keeps hk fun c hg hf => h3 c hf hg, Nat.le_trans hz hk.size, h6.trans (hk.below hz fun c _ e => h1 c e)⟩
  · rcases hF c hc with h | h
    · exact h1 c h
    · omega
  · rcases hF c hf with h | h
    · exact h3 c h hg
    · have := h5.lt c hg
      omega
theorem TwoB.ask {f : FuncId} {args : Array Value} {Q : Ending → World → Prop} (h : TwoB B W w b m br v b' m' br' v') (hc : ∀ F, Wv F w b m br v → Calls Try.prog f args w Q) : Calls Try.prog f args w Q := by
  obtain ⟨F, G, _, _, _, h4, _⟩ := h
  exact hc F h4
/-- What lies below their blocks is written. -/
theorem Two.turn {s : Nat → Prop} (h : Two W w b m br v b' m' br' v') (hk : Keeps w w' s) (hs : ∀ c, s c → c < W.heap.size) : TwoB W.heap.size w' w' b m br v b' m' br' v' := by
  obtain ⟨F, G, h1, h2, h3, h4, h5, h6⟩ := h
  exact ⟨F, G, h1, h2, h3, h4.keeps hk fun c hc e => by have := h1 c hc; have := hs c e; omega, h5.keeps hk fun c hc e => by have := h2 c hc; have := hs c e; omega, Nat.le_trans h6.size hk.size, Below.refl _ _⟩
end
end Go.Proofs.Ytjijgpdfoilijaa
