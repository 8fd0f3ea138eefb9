/- Entries: which may be, of which pages they are, which clash. -/
import Derived.Test.YtpkagigjcnjlpaaEEnt
namespace Go.Proofs.Ytpkagigjcnjlpaa

/-- 2 to an order of an entry. -/
def pw (o : Int) : Int := if o = 3 then 8 else if o = 2 then 4 else 1
def mayB (x : Ent) : Bool := decide (0 ≤ x.asid ∧ x.asid ≤ 255 ∧ 0 ≤ x.first ∧ x.first ≤ 4095 ∧ 0 ≤ x.base ∧ (x.order = 0 ∨ x.order = 2 ∨ x.order = 3) ∧ x.first % pw x.order = 0)
def isB (x : Ent) (asid page : Int) : Bool := decide (x.asid = asid ∧ x.first ≤ page ∧ page < x.first + pw x.order)
def eqE (a b : Ent) : Bool := a.asid == b.asid && (a.first == b.first && (a.order == b.order && (a.base == b.base && (a.writ == b.writ && a.exe == b.exe))))
def clashB (a b : Ent) : Bool := !eqE a b && (isB a b.asid b.first || isB b a.asid a.first)

theorem eqE_iff (a b : Ent) : eqE a b = true ↔ a = b := by
  obtain ⟨a1, a2, a3, a4, a5, a6⟩ := a
  obtain ⟨b1, b2, b3, b4, b5, b6⟩ := b
  simp [eqE]
theorem eqE_self (a : Ent) : eqE a a = true := (eqE_iff a a).2 rfl
theorem eqE_comm (a b : Ent) : eqE a b = eqE b a := by
  rw [Bool.eq_iff_iff, eqE_iff, eqE_iff]
  exact eq_comm
theorem eqE_no {a b : Ent} (h : a ≠ b) : eqE a b = false := by
  rw [Bool.eq_false_iff]
  exact fun e => h ((eqE_iff a b).1 e)
theorem clash_comm (a b : Ent) : clashB a b = clashB b a := by
  unfold clashB
  rw [eqE_comm, Bool.or_comm]
theorem clash_self (a : Ent) : clashB a a = false := by
  unfold clashB
  rw [eqE_self]
  rfl

theorem may_parts {x : Ent} (h : mayB x = true) : (0 ≤ x.asid ∧ x.asid ≤ 255) ∧ (0 ≤ x.first ∧ x.first ≤ 4095) ∧ 0 ≤ x.base ∧ ((x.order = 0 ∧ pw x.order = 1) ∨ (x.order = 2 ∧ pw x.order = 4 ∧ x.first % 4 = 0) ∨ (x.order = 3 ∧ pw x.order = 8 ∧ x.first % 8 = 0)) := by
  simp only [mayB, decide_eq_true_eq] at h
  obtain ⟨h1, h2, h3, h4, h5, h6, h7⟩ := h
  refine ⟨⟨h1, h2⟩, ⟨h3, h4⟩, h5, ?_⟩
  rcases h6 with e | e | e
  · exact Or.inl ⟨e, by rw [e]; rfl⟩
  · have p : pw x.order = 4 := by rw [e]; rfl
    rw [p] at h7
    exact Or.inr (Or.inl ⟨e, p, h7⟩)
  · have p : pw x.order = 8 := by rw [e]; rfl
    rw [p] at h7
    exact Or.inr (Or.inr ⟨e, p, h7⟩)
theorem pw_cases (o : Int) : (o = 3 ∧ pw o = 8) ∨ (o = 2 ∧ pw o = 4) ∨ (o ≠ 3 ∧ o ≠ 2 ∧ pw o = 1) := by
  by_cases h : o = 3
  · exact Or.inl ⟨h, by simp [pw, h]⟩
  · by_cases h' : o = 2
    · exact Or.inr (Or.inl ⟨h', by simp [pw, h']⟩)
    · exact Or.inr (Or.inr ⟨h, h', by simp [pw, h, h']⟩)
theorem isB_iff (x : Ent) (asid page : Int) : isB x asid page = true ↔ x.asid = asid ∧ x.first ≤ page ∧ page < x.first + pw x.order := by simp [isB]
theorem isB_no (x : Ent) (asid page : Int) : isB x asid page = false ↔ ¬ (x.asid = asid ∧ x.first ≤ page ∧ page < x.first + pw x.order) := by
  rw [← isB_iff, Bool.not_eq_true]

/-- No page together: no clash. -/
theorem clash_none {a b : Ent} (ha : mayB a = true) (hb : mayB b = true) (h : ∀ i : Int, 0 ≤ i → i < pw a.order → isB b a.asid (a.first + i) = false) : clashB a b = false := by
  have pa := may_parts ha
  have pb := may_parts hb
  have h0 := h 0 (by omega) (by omega)
  have h1 := h (b.first - a.first)
  rw [isB_no] at h0 h1
  unfold clashB
  rw [Bool.and_eq_false_iff]
  right
  rw [Bool.or_eq_false_iff, isB_no, isB_no]
  omega
/-- A page together: what is told there decides. -/
theorem clash_page {a b : Ent} (ha : mayB a = true) (hb : mayB b = true) {i : Int} (h0 : 0 ≤ i) (hi : i < pw a.order) (h : isB b a.asid (a.first + i) = true) : clashB a b = !eqE a b := by
  have pa := may_parts ha
  have pb := may_parts hb
  rw [isB_iff] at h
  unfold clashB
  have : (isB a b.asid b.first || isB b a.asid a.first) = true := by
    rw [Bool.or_eq_true, isB_iff, isB_iff]
    omega
  rw [this, Bool.and_true]
theorem same_first {a b : Ent} (ha : mayB a = true) (hb : mayB b = true) {i : Int} (h0 : 0 ≤ i) (hi : i < pw a.order) (h : isB b a.asid (a.first + i) = true) (ho : a.order = b.order) : a.first = b.first := by
  have pa := may_parts ha
  have pb := may_parts hb
  rw [isB_iff] at h
  omega
end Go.Proofs.Ytpkagigjcnjlpaa
