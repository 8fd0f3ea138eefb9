/- What becomes of a watch that knows one place, or none. -/
import Derived.Test.YtjijgpdfoilijaaBOne
import Derived.Test.YtjijgpdfoilijaaPBack
namespace Go.Proofs.Ytjijgpdfoilijaa
open Go.RowKit

/-- One place, newly opened. -/
def openV (a lvl t p f : Int) (x : Nat) : View := [((t, p), ⟨a, f, x, List.replicate (manyN lvl) false⟩)]
theorem v_open (a lvl t p f : Int) {x : Nat} (h : validB x = true) : brokeV false [] lvl t p x 0 = false ∧ writeV [] a lvl t p f x 0 = openV a lvl t p f x := by
  have h0 : validB 0 = false := by decide
  constructor
  · simp [brokeV, h, change_zero]
  · simp [writeV, h, h0, putL, openV]
theorem v_none (a lvl t p f : Int) (y : Nat) : brokeV false [] lvl t p 0 y = false ∧ writeV [] a lvl t p f 0 y = [] := by
  have h0 : validB 0 = false := by decide
  constructor
  · simp [brokeV, h0, change_from0, clashV, getL]
  · simp [writeV, h0, delL]
theorem v_even (br : Bool) (a lvl t p f : Int) {x : Nat} (h : validB x = false) (v : View) : brokeV br v lvl t p x 0 = br ∧ writeV v a lvl t p f x 0 = v := by
  have h0 : validB 0 = false := by decide
  constructor
  · simp [brokeV, h, h0, change_zero]
  · simp [writeV, h, h0]
theorem v_space (a o lvl t p f : Int) (x : Nat) (h : a ≠ o) : spaceV o (openV a lvl t p f x) = openV a lvl t p f x := by
  simp [spaceV, openV, h]
theorem v_spaceAll (a lvl t p f : Int) (x : Nat) : spaceV a (openV a lvl t p f x) = [] := by
  simp [spaceV, openV]
theorem v_told (a o page lvl t p f : Int) (x : Nat) (hl : lvlB lvl = true) (h : a ≠ o) : toldV o page (openV a lvl t p f x) = openV a lvl t p f x := by
  have h1 := (many_bd hl).1
  have h2 : ¬ manyN lvl = 0 := by omega
  simp [toldV, openV, tellV, h, left_rep, h2]
theorem v_forget {t p : Int} (h0 : 0 ≤ p) (h8 : p < 8) (g : Gap) : forgetV t 8 [((t, p), g)] = [] := by
  have : p = 0 ∨ p = 1 ∨ p = 2 ∨ p = 3 ∨ p = 4 ∨ p = 5 ∨ p = 6 ∨ p = 7 := by omega
  rcases this with rfl | rfl | rfl | rfl | rfl | rfl | rfl | rfl <;> simp [forgetV, delL]
theorem valid_odd {x : Nat} (h : ¬ x % 2 = 0) : validB x = true := by
  simp only [validB, decide_eq_true_eq]
  omega
theorem valid_even {x : Nat} (h : x % 2 = 0) : validB x = false := by
  simp only [validB, decide_eq_false_iff_not]
  omega
end Go.Proofs.Ytjijgpdfoilijaa
