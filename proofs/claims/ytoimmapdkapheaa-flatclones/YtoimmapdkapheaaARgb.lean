/- What was told, and whether it is right, later on. -/
import Derived.Test.YtoimmapdkapheaaABox
namespace Go.Proofs.Ytoimmapdkapheaa
set_option maxRecDepth 4000
open Go.RowKit

/-- What was told, some time ago. -/
def RgtA (w : World) (M : List AAr) (v u : Value) : Prop := ∃ W w0, LayW W M (.returned (.tuple #[v, u])) w0 ∧ Below w0.heap.size w0 w
theorem RgtA.below {w w' : World} {M : List AAr} {v u : Value} (h : RgtA w M v u) (hb : Below w.heap.size w w') : RgtA w' M v u := by
  obtain ⟨W, w0, h1, h2⟩ := h
  exact ⟨W, w0, h1, below_call' h2 hb⟩
theorem lay_sure {L : List AAr} {d : AAr} (h : MayA L ∧ SpanA d.a d.b) (w : World) (ao : Option Addr) (c : Nat) (hs : Sn rAAr w ao L) (hm : L.length ≤ maxLen) :
    Calls Try.prog 43 #[.slice ao L.length c, av d] w fun e w' => ∃ v u, e = .returned (.tuple #[v, u]) ∧ Hid (RgtA w' (layM L d.a d.b [d]) v u) ∧ Hid (Below w.heap.size w w') := by
  refine (lay_any hs hm d).mono fun e w' k => ?_
  rcases k with ⟨_, k⟩ | ⟨⟨k, _⟩, _⟩
  · obtain ⟨v, u, rfl⟩ := k.pair
    exact ⟨v, u, rfl, ⟨w, w', k, Below.refl _ _⟩, k.2⟩
  · exact absurd h k
theorem cut_sure {L : List AAr} {a b : Int} (h : MayA L ∧ SpanA a b) (w : World) (ao : Option Addr) (c : Nat) (hs : Sn rAAr w ao L) (hm : L.length ≤ maxLen) :
    Calls Try.prog 48 #[.slice ao L.length c, .int .i64 a, .int .i64 b] w fun e w' => ∃ v u, e = .returned (.tuple #[v, u]) ∧ Hid (RgtA w' (layM L a b []) v u) ∧ Hid (Below w.heap.size w w') := by
  refine (cut_any hs hm a b).mono fun e w' k => ?_
  rcases k with ⟨_, k⟩ | ⟨⟨k, _⟩, _⟩
  · obtain ⟨v, u, rfl⟩ := k.pair
    exact ⟨v, u, rfl, ⟨w, w', k, Below.refl _ _⟩, k.2⟩
  · exact absurd h k
theorem lay_step (f : Int → Option Pg) {a k : Nat} (t : Option Pg) (hk : a ≤ k) : pagesA (layA f a ((k + 1 : Nat) : Int) t) = (pagesA (layA f a k t)).set k (pgA t) := by
  rw [pages_set]
  apply pages_congr
  intro p _ _
  unfold layA
  by_cases e : p = (k : Int)
  · rw [if_pos e, if_pos (by omega)]
  · rw [if_neg e]
    by_cases e2 : (a : Int) ≤ p ∧ p < (k : Int)
    · rw [if_pos e2, if_pos (by omega)]
    · rw [if_neg e2, if_neg (by omega)]
theorem lay_none (f : Int → Option Pg) (a : Nat) (t : Option Pg) : pagesA (layA f a a t) = pagesA f := pages_congr fun p _ _ => if_neg (by omega)
theorem LayS.no {L : List AAr} {a b : Int} {f : Int → Option Pg} {r : Except Int (List AAr)} (h : LayS L a b f r) (hn : ¬ (MayA L ∧ SpanA a b)) : r = .error 1 := by
  rcases h with ⟨_, h⟩ | ⟨h, _⟩
  · exact h
  · exact absurd h hn
theorem EachS.no {L : List AAr} {a b : Int} {t : Pg → Pg} {r : Except Int (List AAr)} (h : EachS L a b t r) (hn : ¬ (MayA L ∧ SpanA a b)) : r = .error 1 := by
  rcases h with ⟨_, h⟩ | ⟨h, _⟩ | ⟨h, _⟩
  · exact h
  · exact absurd h hn
  · exact absurd h hn
end Go.Proofs.Ytoimmapdkapheaa
