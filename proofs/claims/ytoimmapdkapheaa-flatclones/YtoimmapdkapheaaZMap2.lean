/- Maps as lists: what stands where, behind puts and deletes. No word of the program. -/
import Derived.Test.YtoimmapdkapheaaZMap
namespace Go.Proofs.Ytoimmapdkapheaa
set_option maxRecDepth 4000
section
variable {α β : Type} [DecidableEq α]
theorem getL_mem {l : List (α × β)} {a : α} {x : β} (h : getL l a = some x) : (a, x) ∈ l := by
  unfold getL at h
  obtain ⟨p, hp, rfl⟩ := Option.map_eq_some_iff.1 h
  have h1 := List.find?_some hp
  simp at h1
  rw [← h1]
  exact List.mem_of_find?_eq_some hp
theorem getL_none' {l : List (α × β)} {a : α} (h : getL l a = none) : ∀ p ∈ l, p.1 ≠ a := by
  unfold getL at h
  rw [Option.map_eq_none_iff, List.find?_eq_none] at h
  intro p hp e
  exact h p hp (by simp [e])
theorem getL_cons (p : α × β) (l : List (α × β)) (a : α) : getL (p :: l) a = if p.1 = a then some p.2 else getL l a := by
  unfold getL
  rw [List.find?_cons]
  by_cases e : p.1 = a <;> simp [e]
theorem getL_app (l m : List (α × β)) (a : α) : getL (l ++ m) a = (getL l a).or (getL m a) := by
  unfold getL
  rw [List.find?_append]
  cases List.find? (fun p => decide (p.1 = a)) l <;> simp
theorem getL_put : ∀ (l : List (α × β)) (a : α) (x : β) (b : α), getL (putL l a x) b = if b = a then some x else getL l b := by
  intro l a x b
  unfold putL
  split
  · next h =>
    have key : ∀ l : List (α × β), getL (l.map fun p => if p.1 = a then (a, x) else p) b = if b = a then (if l.any (fun p => decide (p.1 = a)) = true then some x else none) else getL l b := by
      intro l
      induction l with
      | nil => simp [getL]
      | cons p r ih =>
        rw [List.map_cons, getL_cons, ih, getL_cons]
        by_cases e1 : p.1 = a
        · by_cases e2 : b = a
          · simp [e1, e2]
          · simp [e1, e2, Ne.symm e2]
        · by_cases e2 : b = a
          · simp only [e1, e2, if_true, if_false, List.any_cons, decide_false, Bool.false_or]
          · simp [e1, e2]
    rw [key]
    simp [h]
  · next h =>
    rw [getL_app, getL_cons]
    have hn : getL l a = none := getL_none fun p hp e => h (List.any_eq_true.2 ⟨p, hp, by simp [e]⟩)
    by_cases e : b = a
    · rw [e, hn]; simp
    · rw [if_neg (Ne.symm e), if_neg e]
      simp [getL]
theorem getL_del (l : List (α × β)) (a b : α) : getL (delL l a) b = if b = a then none else getL l b := by
  induction l with
  | nil => simp [delL, getL]
  | cons p r ih =>
    unfold delL at ih ⊢
    rw [List.filter_cons]
    by_cases e1 : p.1 = a
    · rw [if_neg (by simp [e1]), ih, getL_cons, e1]
      by_cases e2 : b = a
      · rw [if_pos e2, if_pos e2]
      · rw [if_neg e2, if_neg e2, if_neg (Ne.symm e2)]
    · rw [if_pos (by simp [e1]), getL_cons, ih, getL_cons]
      by_cases e2 : b = a
      · rw [if_pos e2, if_pos e2, if_neg (by rw [e2]; exact e1)]
      · rw [if_neg e2, if_neg e2]
theorem mid_ne {α' β' : Type} {l1 l2 : List (α' × β')} {a : α'} {x : β'} (hd : (l1 ++ (a, x) :: l2).Pairwise fun p q => p.1 ≠ q.1) : (∀ p ∈ l1, p.1 ≠ a) ∧ ∀ p ∈ l2, p.1 ≠ a := by
  obtain ⟨h1, h2, h3⟩ := List.pairwise_append.1 hd
  obtain ⟨h4, h5⟩ := List.pairwise_cons.1 h2
  exact ⟨fun p hp => h3 p hp (a, x) (by simp), fun p hp => (h4 p hp).symm⟩
theorem putL_mid {l1 l2 : List (α × β)} {a : α} {x y : β} (hd : (l1 ++ (a, x) :: l2).Pairwise fun p q => p.1 ≠ q.1) : putL (l1 ++ (a, x) :: l2) a y = l1 ++ (a, y) :: l2 := by
  obtain ⟨h1, h2⟩ := mid_ne hd
  unfold putL
  rw [if_pos (by simp)]
  have e : ∀ l : List (α × β), (∀ p ∈ l, p.1 ≠ a) → l.map (fun p => if p.1 = a then (a, y) else p) = l := fun l h => by
    conv => rhs; rw [← List.map_id l]
    exact List.map_congr_left fun p hp => by rw [if_neg (h p hp)]; rfl
  rw [List.map_append, List.map_cons, e l1 h1, e l2 h2, if_pos rfl]
theorem delL_mid {l1 l2 : List (α × β)} {a : α} {x : β} (hd : (l1 ++ (a, x) :: l2).Pairwise fun p q => p.1 ≠ q.1) : delL (l1 ++ (a, x) :: l2) a = l1 ++ l2 := by
  obtain ⟨h1, h2⟩ := mid_ne hd
  unfold delL
  have e : ∀ l : List (α × β), (∀ p ∈ l, p.1 ≠ a) → l.filter (fun p => !decide (p.1 = a)) = l := fun l h => List.filter_eq_self.2 fun p hp => by simpa using h p hp
  rw [List.filter_append, List.filter_cons, e l1 h1, e l2 h2, if_neg (by simp)]
end
/-- No more unlike numbers than there are. -/
theorem few_keys : ∀ (n : Nat) (l : List Int), l.Nodup → (∀ k ∈ l, 1 ≤ k ∧ k ≤ (n : Int)) → l.length ≤ n
  | 0, l, _, h => by
    cases l with
    | nil => exact Nat.le_refl _
    | cons a r => have := h a (by simp); omega
  | n + 1, l, hd, h => by
    by_cases hm : ((n : Int) + 1) ∈ l
    · have h1 := few_keys n (l.erase ((n : Int) + 1)) (hd.erase _) fun k hk => by
        have h2 := h k (List.mem_of_mem_erase hk)
        have h3 : k ≠ (n : Int) + 1 := fun e => by
          rw [e] at hk
          exact (List.Nodup.not_mem_erase hd) hk
        omega
      rw [List.length_erase_of_mem hm] at h1
      omega
    · have h1 := few_keys n l hd fun k hk => by
        have h2 := h k hk
        have h3 : k ≠ (n : Int) + 1 := fun e => hm (e ▸ hk)
        omega
      omega
end Go.Proofs.Ytoimmapdkapheaa
