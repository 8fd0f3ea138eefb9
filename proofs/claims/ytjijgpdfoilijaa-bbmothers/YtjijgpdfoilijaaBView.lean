/- A watch by what it knows, not by where it lies: the contracts of all its calls; one watch, and two, within a call that made them. -/
import Derived.Test.YtjijgpdfoilijaaBWriteO
namespace Go.Proofs.Ytjijgpdfoilijaa
open Go.RowKit

section
variable {α β γ : Type} [DecidableEq α] (f : β → γ)
theorem any_map (l : List (α × β)) (a : α) : (l.map fun p => (p.1, f p.2)).any (fun p => decide (p.1 = a)) = l.any fun p => decide (p.1 = a) := by
  simp [List.any_map, Function.comp_def]
theorem putL_map (l : List (α × β)) (a : α) (x : β) : (putL l a x).map (fun p => (p.1, f p.2)) = putL (l.map fun p => (p.1, f p.2)) a (f x) := by
  unfold putL
  rw [any_map]
  split
  · rw [List.map_map, List.map_map]
    refine List.map_congr_left fun p _ => ?_
    simp only [Function.comp_def]
    split <;> rfl
  · simp
theorem delL_map (l : List (α × β)) (a : α) : (delL l a).map (fun p => (p.1, f p.2)) = delL (l.map fun p => (p.1, f p.2)) a := by
  unfold delL
  rw [List.filter_map]
  rfl
theorem getL_map (l : List (α × β)) (a : α) : getL (l.map fun p => (p.1, f p.2)) a = (getL l a).map f := by
  unfold getL
  rw [List.find?_map]
  simp [Function.comp_def]
end

/-- What is known of an open place. -/
structure Gap where
  asid : Int
  first : Int
  last : Nat
  told : List Bool
abbrev View := List ((Int × Int) × Gap)
def Opn.gap (x : Opn) : Gap := ⟨x.asid, x.first, x.last, x.told⟩
def view (l : Gaps) : View := l.map fun p => (p.1, p.2.gap)
def tellV (a page : Int) (g : Gap) : Gap := if g.asid = a then { g with told := tellT g.told g.first page } else g
def toldV (a page : Int) (v : View) : View := v.filterMap fun p => if ((leftN (tellV a page p.2).told : Nat) : Int) == 0 then none else some (p.1, tellV a page p.2)
def spaceV (a : Int) (v : View) : View := v.filter fun p => !(p.2.asid == a)
def forgetV (t : Int) : Nat → View → View
  | 0, v => v
  | k + 1, v => delL (forgetV t k v) (t, (k : Int))
def clashV (v : View) (s : Int × Int) (lvl : Int) (x : Nat) : Bool := match getL v s with | some y => !alikeB (saysD lvl y.last) (saysD lvl x) | none => false
def brokeV (br : Bool) (v : View) (lvl t p : Int) (old new : Nat) : Bool := br || (!changeB lvl old new || (!validB old && (validB new && clashV v (t, p) lvl new)))
def writeV (v : View) (a lvl t p f : Int) (old new : Nat) : View :=
  if validB old && !validB new then putL v (t, p) ⟨a, f, old, List.replicate (manyN lvl) false⟩ else if !validB old && validB new then delL v (t, p) else v

theorem tell_gap (a page : Int) (x : Opn) : (toldT a page x).gap = tellV a page x.gap := by
  unfold toldT tellV Opn.gap Opn.tell
  simp only
  split <;> rfl
theorem view_told (a page : Int) (l : Gaps) : view (toldL a page l) = toldV a page (view l) := by
  unfold view toldL toldV
  rw [List.map_filterMap, List.filterMap_map]
  apply filterMap_congr'
  intro p _
  unfold stayT toldG
  simp only [Function.comp_def]
  rw [← tell_gap]
  show Option.map _ (if ((leftN (toldT a page p.2).told : Nat) : Int) == 0 then none else some (p.1, toldT a page p.2)) = if ((leftN (toldT a page p.2).told : Nat) : Int) == 0 then none else some (p.1, (toldT a page p.2).gap)
  split <;> rfl
theorem view_space (a : Int) (l : Gaps) : view (spaceL a l) = spaceV a (view l) := by
  unfold view spaceL spaceV
  rw [List.map_filterMap, List.filter_map, ← List.filterMap_eq_filter, List.map_filterMap]
  apply filterMap_congr'
  intro p _
  cases h : p.2.asid == a <;> simp [stayT, Opn.gap, h, Option.guard]
theorem view_forget (t : Int) (l : Gaps) : ∀ k, view (forgetL t k l) = forgetV t k (view l)
  | 0 => rfl
  | k + 1 => by
    rw [forgetL, forgetV, ← view_forget t l k]
    exact delL_map Opn.gap _ _
theorem view_clash (l : Gaps) (s : Int × Int) (lvl : Int) (x : Nat) : clashV (view l) s lvl x = clashB l s lvl x := by
  unfold clashV clashB view
  rw [getL_map]
  cases getL l s <;> rfl

/-- A watch that knows v. -/
def Wv (F : Nat → Prop) (w : World) (b m : Nat) (br : Bool) (v : View) : Prop := ∃ l, view l = v ∧ Wat F w b m br l
/-- Behind a call of it. -/
def Op1 (F : Nat → Prop) (w : World) (b m : Nat) (br : Bool) (v : View) (w' : World) : Prop := ∃ F', (∀ c, F' c → F c ∨ w.heap.size ≤ c) ∧ Wv F' w' b m br v ∧ Keeps w w' F
def VPost (F : Nat → Prop) (w : World) (b m : Nat) (br : Bool) (v : View) (r : Value) (e : Ending) (w' : World) : Prop := e = .returned r ∧ Op1 F w b m br v w'

section
variable {F : Nat → Prop} {w : World} {b m : Nat} {br : Bool} {v : View}
theorem Wat.op1 {w' : World} {l : Gaps} (h : Wat F w' b m br l) (hk : Keeps w w' F) : Op1 F w b m br (view l) w' := ⟨F, fun _ h => Or.inl h, ⟨l, rfl, h⟩, hk⟩
theorem vTold (h : Wv F w b m br v) (a page : Int) : Calls Try.prog 12 #[.pointer (some ⟨b, 0, none⟩), .int .i64 a, .int .i64 page] w (VPost F w b m br (toldV a page v) (.tuple #[])) := by
  obtain ⟨l, rfl, h⟩ := h
  refine (told_any h a page).mono ?_
  rintro e w' ⟨rfl, h1, h2⟩
  rw [← view_told]
  exact ⟨rfl, h1.op1 h2⟩
theorem vSpace (h : Wv F w b m br v) (a : Int) : Calls Try.prog 10 #[.pointer (some ⟨b, 0, none⟩), .int .i64 a] w (VPost F w b m br (spaceV a v) (.tuple #[])) := by
  obtain ⟨l, rfl, h⟩ := h
  refine (space_any h a).mono ?_
  rintro e w' ⟨rfl, h1, h2⟩
  rw [← view_space]
  exact ⟨rfl, h1.op1 h2⟩
theorem vForget (h : Wv F w b m br v) (t : Int) (ht : -9223372036854775808 ≤ t ∧ t ≤ 9223372036854775807) : Calls Try.prog 18 #[.pointer (some ⟨b, 0, none⟩), .int .i64 t] w (VPost F w b m br (forgetV t 8 v) (.tuple #[])) := by
  obtain ⟨l, rfl, h⟩ := h
  refine (forget_any h t ht).mono ?_
  rintro e w' ⟨rfl, h1, h2⟩
  rw [← view_forget]
  exact ⟨rfl, h1.op1 h2⟩
theorem vBroken (h : Wv F w b m br v) : Calls Try.prog 13 #[.pointer (some ⟨b, 0, none⟩)] w fun e w' => e = .returned (.bool br) ∧ w' = w := by
  obtain ⟨l, rfl, h⟩ := h
  exact brokenW_any h
theorem vOpen (h : Wv F w b m br v) : Calls Try.prog 14 #[.pointer (some ⟨b, 0, none⟩)] w fun e w' => e = .returned (.int .i64 v.length) ∧ w' = w := by
  obtain ⟨l, rfl, h⟩ := h
  have := openW_any h
  rwa [show (view l).length = l.length by simp [view]]
theorem vWrite (h : Wv F w b m br v) (a lvl t p f : Int) (old new : Nat) (hold : old < 18446744073709551616) (hnew : new < 18446744073709551616) (hm : mayW a lvl t p f = true) :
    Calls Try.prog 9 #[.pointer (some ⟨b, 0, none⟩), .int .i64 a, .int .i64 lvl, .int .i64 t, .int .i64 p, .int .i64 f, .int .u64 old, .int .u64 new] w (VPost F w b m (brokeV br v lvl t p old new) (writeV v a lvl t p f old new) .nilIface) := by
  obtain ⟨l, rfl, h⟩ := h
  unfold brokeV writeV
  cases v1 : validB old with
  | true =>
    cases v2 : validB new with
    | true =>
      cases hc : changeB lvl old new with
      | true =>
        refine (write_tt h a lvl t p f old new hold hnew hm v1 v2 hc).mono ?_
        rintro e w' ⟨rfl, h1, h2⟩
        simpa [VPost] using h1.op1 h2
      | false =>
        refine (write_tf h a lvl t p f old new hold hnew hm v1 v2 hc).mono ?_
        rintro e w' ⟨rfl, h1, h2⟩
        simpa [VPost] using h1.op1 h2
    | false =>
      have hc : changeB lvl old new = true := by
        have : new % 2 = 0 := by simp only [validB, decide_eq_false_iff_not] at v2; omega
        simp [changeB, plainB, this]
      rw [hc]
      refine (write_open h a lvl t p f old new hold hnew hm v1 v2).mono ?_
      rintro e w' ⟨rfl, y, ya, yf, yl, yt, h1, h2⟩
      refine ⟨rfl, _, ?_, ⟨_, ?_, by simpa using h1⟩, h2⟩
      · rintro c (hc | hc)
        · exact Or.inl hc
        · exact Or.inr hc.1
      · rw [if_pos (by simp)]
        refine (putL_map Opn.gap l (t, p) y).trans ?_
        rw [show y.gap = ⟨a, f, old, List.replicate (manyN lvl) false⟩ by rw [Opn.gap, ya, yf, yl, yt]]
        rfl
  | false =>
    cases v2 : validB new with
    | true =>
      have hc : changeB lvl old new = true := by
        have : old % 2 = 0 := by simp only [validB, decide_eq_false_iff_not] at v1; omega
        simp [changeB, plainB, this]
      rw [hc]
      refine (write_close h a lvl t p f old new hold hnew hm v1 v2).mono ?_
      rintro e w' ⟨rfl, h1, h2⟩
      rw [view_clash, if_neg (by simp), if_pos (by simp)]
      have h3 := h1.op1 h2
      have e1 : view (delL l (t, p)) = delL (view l) (t, p) := delL_map Opn.gap l (t, p)
      rw [e1] at h3
      exact ⟨rfl, by simpa using h3⟩
    | false =>
      have hc : changeB lvl old new = true := by
        have : old % 2 = 0 := by simp only [validB, decide_eq_false_iff_not] at v1; omega
        simp [changeB, plainB, this]
      refine (write_ff h a lvl t p f old new hold hnew hm v1 v2 hc).mono ?_
      rintro e w' ⟨rfl, h1, h2⟩
      simpa [VPost, hc] using h1.op1 h2
end
end Go.Proofs.Ytjijgpdfoilijaa
