/- The document's own memory: what is written into it, and what stays. -/
import Derived.Test.YteoblaopbhdneaaMRef
namespace Go.Proofs.Yteoblaopbhdneaa
open Go.RowKit

theorem Ref.ltq {B : Nat} {w : World} {q n : Nat} {R f : Nat → Nat} (h : Ref B w q n R f) : q < w.heap.size := by obtain ⟨c, h1, _⟩ := h.top; exact (Array.getElem?_eq_some_iff.1 h1).1

/-- A memory and a list of lists lie apart. -/
theorem apart {B B' : Nat} {w : World} {b s n n' q : Nat} {f R g : Nat → Nat} (M : Mem B w b s n f) (F : Ref B' w q n' R g) : q ≠ b ∧ q ≠ s ∧ ∀ k, k < n' → R k ≠ b ∧ R k ≠ s ∧ R k ≠ q := by
  obtain ⟨_, _, h1⟩ := M.ptr
  obtain ⟨_, h2, _⟩ := M.row
  obtain ⟨_, h3, _⟩ := F.top
  refine ⟨ne_of_tag h3 h1 (by decide), ne_of_tag h3 h2 (by decide), fun k hk => ?_⟩
  obtain ⟨_, _, h4, _⟩ := F.rows k hk
  exact ⟨ne_of_tag h4 h1 (by decide), ne_of_tag h4 h2 (by decide), ne_of_tag h4 h3 (by decide)⟩

theorem Ref.kept {B : Nat} {w w' : World} {row : Option Nat} {q n : Nat} {R f : Nat → Nat} (h : Ref B w q n R f) (hg : w.grownBy w' row) (h1 : some q ≠ row) (h2 : ∀ k, k < n → some (R k) ≠ row) : Ref B w' q n R f := by
  refine ⟨h.hq, ?_, fun k hk => ⟨(h.rows k hk).1, (h.rows k hk).2.kept hg (h2 k hk)⟩, h.inj⟩
  rw [hg.block q h.ltq h1]
  exact h.top
theorem Ref.below {B : Nat} {w w' : World} {q n : Nat} {R f : Nat → Nat} (h : Ref B w q n R f) (hb : Below w.heap.size w w') : Ref B w' q n R f := by
  refine ⟨h.hq, ?_, fun k hk => ⟨(h.rows k hk).1, (h.rows k hk).2.below hb⟩, h.inj⟩
  rw [hb.block q h.ltq]
  exact h.top
theorem Ref.base {B B' : Nat} {w : World} {q n : Nat} {R f : Nat → Nat} (h : Ref B w q n R f) (hB : B' ≤ B) : Ref B' w q n R f := ⟨Nat.le_trans hB h.hq, h.top, fun k hk => ⟨Nat.le_trans hB (h.rows k hk).1, (h.rows k hk).2⟩, h.inj⟩
theorem Ref.drew {B : Nat} {w : World} {q n : Nat} {R f : Nat → Nat} (h : Ref B w q n R f) : Ref B w.drew q n R f := ⟨h.hq, h.top, h.rows, h.inj⟩

/-- What a walk asks of it. -/
theorem Ref.rules {B : Nat} {w : World} {q n : Nat} {R f : Nat → Nat} (h : Ref B w q n R f) (k : Nat) (hk : k < n) :
    (∃ cap : Nat, w.cell? ⟨q, k, none⟩ = some (.slice (some ⟨R k, 0, none⟩) 8 cap)) ∧ (∀ j, j < 8 → w.cell? ⟨R k, j, none⟩ = some (.int .u64 (f (k * 8 + j)))) ∧ (∀ j, w.frozen? ⟨R k, j, none⟩ = false) ∧ (∀ j, w.frozen? ⟨q, j, none⟩ = false) := by
  obtain ⟨c, h1, h2⟩ := h.top
  obtain ⟨cap, h2⟩ := h2 k hk
  obtain ⟨_, d, h3, h4⟩ := h.rows k hk
  exact ⟨⟨cap, by simp [World.cell?, h1, h2]⟩, fun j hj => by simp [World.cell?, h3, h4 j hj], fun j => by simp [World.frozen?, h3], fun j => by simp [World.frozen?, h1]⟩

theorem Row8.set {w : World} {r : Nat} {g : Nat → Nat} (h : Row8 w r g) (j v : Nat) : Row8 (w.setCell ⟨r, j, none⟩ (.int .u64 v)) r (fun i => if i = j then v else g i) := by
  obtain ⟨c, h1, h2⟩ := h
  refine ⟨c.setIfInBounds j (.int .u64 v), heap_setCell_same w r j c _ _ h1, fun i hi => ?_⟩
  have := h2 i hi
  have hl := (Array.getElem?_eq_some_iff.1 this).1
  rw [Array.getElem?_setIfInBounds]
  by_cases e : i = j
  · subst e; simp [hl]
  · rw [if_neg (fun q => e q.symm), this]; simp [e]

theorem Ref.set {B : Nat} {w : World} {q n : Nat} {R f : Nat → Nat} (h : Ref B w q n R f) (hne : ∀ k, k < n → R k ≠ q) (k j v : Nat) (hk : k < n) (hj : j < 8) : Ref B (w.setCell ⟨R k, j, none⟩ (.int .u64 v)) q n R (upd f (k * 8 + j) v) := by
  refine ⟨h.hq, ?_, fun k' hk' => ⟨(h.rows k' hk').1, ?_⟩, h.inj⟩
  · obtain ⟨c, h1, h2⟩ := h.top
    exact ⟨c, (heap_setCell_other w _ q _ (fun e => hne k hk e.symm)).trans h1, h2⟩
  · by_cases e : k' = k
    · subst e
      obtain ⟨c, h1, h2⟩ := (h.rows k' hk').2.set j v
      refine ⟨c, h1, fun i hi => ?_⟩
      rw [h2 i hi]
      congr 2
      unfold upd
      dsimp only
      by_cases e2 : i = j
      · rw [if_pos e2, if_pos (by omega)]
      · rw [if_neg e2, if_neg (by omega)]
    · have hr : R k' ≠ R k := fun q => e (h.inj k' k hk' hk q)
      obtain ⟨c, h1, h2⟩ := (h.rows k' hk').2
      refine ⟨c, (heap_setCell_other w _ (R k') _ hr).trans h1, fun i hi => ?_⟩
      rw [h2 i hi]
      congr 2
      unfold upd
      dsimp only
      rw [if_neg (by omega)]

/-- A row is put in a place's stead: a new one. -/
theorem Ref.fresh {B : Nat} {w W : World} {q n : Nat} {R f : Nat → Nat} (h : Ref B w q n R f) (hb : Below w.heap.size w W) (a r cap : Nat) (g : Nat → Nat) (ha : a < n) (hr : w.heap.size ≤ r) (hB : B ≤ w.heap.size) (hrow : Row8 W r g) :
    Ref B (W.setCell ⟨q, a, none⟩ (.slice (some ⟨r, 0, none⟩) 8 cap)) q n (fun k => if k = a then r else R k) (fun j => if j / 8 = a then g (j % 8) else f j) := by
  have hq := h.ltq
  have h' := h.below hb
  refine ⟨h.hq, ?_, fun k hk => ?_, fun k k' hk hk' e => ?_⟩
  · obtain ⟨c, h1, h2⟩ := h'.top
    refine ⟨c.setIfInBounds a (.slice (some ⟨r, 0, none⟩) 8 cap), heap_setCell_same W q a c _ _ h1, fun k hk => ?_⟩
    obtain ⟨cap', h2⟩ := h2 k hk
    have hl := (Array.getElem?_eq_some_iff.1 h2).1
    by_cases e : k = a
    · subst e; exact ⟨cap, by simp [hl]⟩
    · refine ⟨cap', ?_⟩
      rw [Array.getElem?_setIfInBounds, if_neg (fun q => e q.symm), h2]
      simp [e]
  · by_cases e : k = a
    · subst e
      simp only [if_true]
      obtain ⟨c, h1, h2⟩ := hrow
      refine ⟨by omega, c, (heap_setCell_other W _ r _ (fun e => by simp only at e; omega)).trans h1, fun j hj => ?_⟩
      rw [h2 j hj]
      congr 2
      dsimp only
      rw [if_pos (by omega), show (k * 8 + j) % 8 = j by omega]
    · simp only [if_neg e]
      obtain ⟨q1, q2⟩ := h.rows k hk
      have hlt := q2.lt
      obtain ⟨c, h1, h2⟩ := q2.below hb
      have hne : R k ≠ q := by
        obtain ⟨_, h3, _⟩ := h'.top
        exact ne_of_tag h1 h3 (by decide)
      refine ⟨q1, c, (heap_setCell_other W _ (R k) _ hne).trans h1, fun j hj => ?_⟩
      rw [h2 j hj]
      congr 2
      dsimp only
      rw [if_neg (by omega)]
  · have l1 := (h.rows k hk).2.lt
    have l2 := (h.rows k' hk').2.lt
    by_cases e1 : k = a
    · by_cases e2 : k' = a
      · omega
      · rw [if_pos e1, if_neg e2] at e; omega
    · by_cases e2 : k' = a
      · rw [if_neg e1, if_pos e2] at e; omega
      · rw [if_neg e1, if_neg e2] at e; exact h.inj k k' hk hk' e

set_option maxHeartbeats 400000 in
theorem has_any (q n cap : Nat) (a i : Int) (w : World) :
    Calls Try.prog 27 #[.slice (some ⟨q, 0, none⟩) n cap, .int .i64 a, .int .i64 i] w fun e w' => e = .returned (.bool (okP n a i)) ∧ w' = w := by
  go_enter Try.func27, Try.ntmps27
  go_wp2
  all_goals go_ret
  all_goals refine ⟨ret_bool ?_, rfl⟩
  all_goals (rw [Bool.eq_iff_iff]; simp [okP]; try omega)
theorem Ref.of_mem {B B' : Nat} {w w' : World} {b s n n' q : Nat} {f R g : Nat → Nat} (F : Ref B w q n' R g) (M : Mem B' w b s n f) (G : w.grownBy w' (some s)) : Ref B w' q n' R g := by
  obtain ⟨h1, h2, h3⟩ := apart M F
  exact F.kept G (fun e => h2 (by cases e; rfl)) (fun k hk e => (h3 k hk).2.1 (by cases e; rfl))
end Go.Proofs.Yteoblaopbhdneaa
