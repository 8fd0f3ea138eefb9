/- A law's arguments that are areas by value, through calls. -/
import Derived.Test.YtoimmapdkapheaaATell
namespace Go.Proofs.Ytoimmapdkapheaa
set_option maxRecDepth 4000
open Go.RowKit

/-- One area by value, as it lies; two. -/
def Bx1 (w W : World) (d : AAr) : Prop := Below w.heap.size w W ∧ Laid W w.heap.size 55 d.arr ∧ True
theorem Bx1.below {w W W' : World} {d : AAr} (h : Bx1 w W d) (hb : Below W.heap.size W W') : Bx1 w W' d := ⟨below_call' h.1 hb, h.2.1.below hb, trivial⟩
theorem Bx1.new (w : World) (d : AAr) : Bx1 w (w.alloc (.cells d.arr 55)) d := ⟨new_below _ _, Laid.new _ _ _, trivial⟩
theorem bx1_self (w : World) (d : AAr) : Hid (Bx1 w (w.alloc (.cells d.arr 55)) d) := Bx1.new w d
def Bx2 (w W : World) (d e : AAr) : Prop := Below w.heap.size w W ∧ Laid W w.heap.size 55 d.arr ∧ Laid W (w.heap.size + 1) 55 e.arr
theorem Bx2.below {w W W' : World} {d e : AAr} (h : Bx2 w W d e) (hb : Below W.heap.size W W') : Bx2 w W' d e := ⟨below_call' h.1 hb, h.2.1.below hb, h.2.2.below hb⟩
theorem Bx2.new (w : World) (d e : AAr) : Bx2 w ((w.alloc (.cells d.arr 55)).alloc (.cells e.arr 55)) d e := by
  refine ⟨below_call' (new_below _ _) (new_below _ _), (Laid.new _ _ _).below (new_below _ _), ?_⟩
  have h := Laid.new (w.alloc (.cells d.arr 55)) 55 e.arr
  rwa [show (w.alloc (.cells d.arr 55)).heap.size = w.heap.size + 1 by simp] at h
theorem lstN {len : Nat} (D : Nat → AAr) : ((List.range len).map D).length = len := by simp

theorem lay_twice {L M : List AAr} {a b : Int} {t : Option Pg} {r : Except Int (List AAr)} (h : LayS L a b (layA (ownA L) a b t) (.ok M)) (h' : LayS M a b (layA (ownA M) a b t) r) : r = .ok M := by
  obtain ⟨h1, h2, h3, h4⟩ := h.sure
  rcases h' with ⟨k, _⟩ | ⟨_, k⟩
  · exact absurd ⟨h3.may h4, h2⟩ k
  · have e : FitS (layA (ownA L) a b t) r := k.congr fun p p0 p1 => by
      rw [← layA_twice (ownA L) a b t p]
      unfold layA
      by_cases c : a ≤ p ∧ p < b
      · rw [if_pos c, if_pos c]
      · rw [if_neg c, if_neg c, if_neg c]
        have := h3.2 p p0 p1
        unfold layA at this
        rwa [if_neg c] at this
    exact e.uniq ⟨M, h3, Or.inl ⟨h4, rfl⟩⟩
theorem cut_all {M : List AAr} (hM : MayA M) {r : Except Int (List AAr)} (h : LayS M 0 4096 (layA (ownA M) 0 4096 none) r) : r = .ok [] := by
  rcases h with ⟨k, _⟩ | ⟨_, T, t1, t2⟩
  · exact absurd ⟨hM, by omega, by omega, by omega⟩ k
  · obtain rfl := can_none t1 fun p p0 p1 => by unfold layA; rw [if_pos ⟨p0, p1⟩]
    rcases t2 with ⟨_, h⟩ | ⟨h, _⟩
    · exact h
    · simp at h
theorem lay_order {L X Y : List AAr} {a b c d : Int} {t u : Option Pg} {r s : Except Int (List AAr)} (hn : ¬ (a < d ∧ c < b)) (hx : LayS L a b (layA (ownA L) a b t) (.ok X)) (hy : LayS L c d (layA (ownA L) c d u) (.ok Y)) (hr : LayS X c d (layA (ownA X) c d u) r) (hs : LayS Y a b (layA (ownA Y) a b t) s) : r = s := by
  obtain ⟨_, x2, x3, x4⟩ := hx.sure
  obtain ⟨_, y2, y3, y4⟩ := hy.sure
  rcases hr with ⟨k, _⟩ | ⟨_, hr⟩
  · exact absurd ⟨x3.may x4, y2⟩ k
  rcases hs with ⟨k, _⟩ | ⟨_, hs⟩
  · exact absurd ⟨y3.may y4, x2⟩ k
  have e1 : FitS (layA (layA (ownA L) a b t) c d u) r := hr.congr fun p p0 p1 => by
    show (if c ≤ p ∧ p < d then u else ownA X p) = if c ≤ p ∧ p < d then u else layA (ownA L) a b t p
    rw [x3.2 p p0 p1]
  have e2 : FitS (layA (layA (ownA L) a b t) c d u) s := hs.congr fun p p0 p1 => by
    rw [layA_comm (ownA L) t u hn p]
    show (if a ≤ p ∧ p < b then t else ownA Y p) = if a ≤ p ∧ p < b then t else layA (ownA L) c d u p
    rw [y3.2 p p0 p1]
  exact e1.uniq e2
theorem LayS.ok_or {L : List AAr} {a b : Int} {f : Int → Option Pg} {r : Except Int (List AAr)} (h : LayS L a b f r) : (∃ M, r = .ok M ∧ M.length ≤ 64) ∨ (r = .error 1) ∨ (r = .error 5) := by
  rcases h with ⟨_, h⟩ | ⟨_, T, _, ⟨h1, h⟩ | ⟨_, h⟩⟩
  · exact Or.inr (Or.inl h)
  · exact Or.inl ⟨T, h, h1⟩
  · exact Or.inr (Or.inr h)
end Go.Proofs.Ytoimmapdkapheaa
